import Derived.Test.YtjkmahmoclobmaaGreatQScanFollow
import Derived.Test.YtjkmahmoclobmaaGreatQScanToldCore
import Derived.Test.YtjkmahmoclobmaaGreatQHeadRefs
namespace Go.Proofs.YtjkmahmoclobmaaGreat.sc
set_option linter.unusedSimpArgs false
set_option linter.unusedVariables false
open Go.RowKit mem base disk owns
open record (Rc RcIn RcAt put5 put5_kept cell5)
open item (It Items)
structure SM (w:World)(b5 b6 b9:Nat)(b s l:Int)(p:Ps):Prop where
 c:Blk w b5 29 #[.int .i64 b,.int .i64 s,.int .i64 l]
 p:Blk w b6 24 #[.int .i64 p.s,.int .i64 p.o,.int .i64 p.l,.int .i64 p.v,.int .i64 p.m]
 r:Blk w b9 24 #[.int .i64 0,.int .i64 0,.int .i64 0,.int .i64 0,.int .i64 0]
theorem SM.kept {w w':World}{b5 b6 b9:Nat}{b s l:Int}{p:Ps}(h:SM w b5 b6 b9 b s l p)(k:Kept [] w w'):SM w' b5 b6 b9 b s l p:=
 ⟨k.blk h.c (by simp),k.blk h.p (by simp),k.blk h.r (by simp)⟩
def FndX (w:World)(S:List Nat):List (Ps×Rc)→List Value→Prop
 | [],xs=>xs=[]
 | (pk,R)::l,xs=>∃ L m c P k d rest,xs= .int .i64 pk.s:: .int .i64 pk.o:: .int .i64 pk.l:: .int .i64 pk.v:: .int .i64 pk.m:: .int .i64 R.m:: .int .i64 R.l:: .int .i64 R.p:: .slice L m c:: .slice P k d::rest∧RcIn w S L m P k R∧FndX w S l rest
theorem FndX.kept {w w':World}{S S':List Nat}(k:Kept S' w w')(hs:∀ i∈S',i∈S):∀ {l:List (Ps×Rc)} {xs:List Value},FndX w S l xs→FndX w' S l xs
 | [],_,h=>h
 | (_,_)::_,_,⟨L,m,c,P,n,d,rest,h1,h2,h3⟩=>⟨L,m,c,P,n,d,rest,h1,h2.kept k hs,h3.kept k hs⟩
theorem FndX.away {w:World}{S S':List Nat}(hs:∀ i∈S',i∈S∨w.heap.size≤i):∀ {l:List (Ps×Rc)} {xs:List Value},FndX w S l xs→FndX w S' l xs
 | [],_,h=>h
 | (_,_)::_,_,⟨L,m,c,P,n,d,rest,h1,h2,h3⟩=>⟨L,m,c,P,n,d,rest,h1,h2.away hs,h3.away hs⟩
theorem FndX.snoc {w:World}{S:List Nat}(pk:Ps)(R:Rc){L:Option Addr}{m c:Nat}{P:Option Addr}{k d:Nat}(hr:RcIn w S L m P k R):∀ {l:List (Ps×Rc)} {xs:List Value},FndX w S l xs→FndX w S (l++[(pk,R)]) (xs++[.int .i64 pk.s,.int .i64 pk.o,.int .i64 pk.l,.int .i64 pk.v,.int .i64 pk.m,.int .i64 R.m,.int .i64 R.l,.int .i64 R.p,.slice L m c,.slice P k d])
 | [],xs,h=>by
  have h':xs=[]:=h
  subst h'
  exact⟨L,m,c,P,k,d,[],rfl,hr,rfl⟩
 | (a,b)::l,xs,h=>by
  obtain⟨L',m',c',P',n',d',rest,rfl,h2,h3⟩:=h
  exact⟨L',m',c',P',n',d',_,rfl,h2,FndX.snoc pk R hr h3⟩
theorem foundX_info:(Tryz.prog.info? 153).map (fun i=>(i.zero,i.size,i.bytes))=some (some (.agg #[.int .i64 0,.int .i64 0,.int .i64 0,.int .i64 0,.int .i64 0,.int .i64 0,.int .i64 0,.int .i64 0,.slice none 0 0,.slice none 0 0]),10,112):=by kernel_rfl
def RScanOut (w':World)(e:Ending)(Q:List Nat)(L:List (Ps×Rc))(E:Ps)(err:Int):Prop:=
 ∃ A c xs,e= .returned (.tuple #[.slice A L.length c,.agg #[.int .i64 E.s,.int .i64 E.o,.int .i64 E.l,.int .i64 E.v,.int .i64 E.m],.int .i64 err])∧Vals w' Q A xs∧FndX w' Q L xs
theorem RScanOut.nil {w':World}{Q:List Nat}{L:List (Ps×Rc)}{E p:Ps}{err x:Int}(h1:L=[])(h2:E=p)(h3:err=x):RScanOut w' (.returned (.tuple #[.slice none 0 0,.agg #[.int .i64 p.s,.int .i64 p.o,.int .i64 p.l,.int .i64 p.v,.int .i64 p.m],.int .i64 x])) Q L E err:=by
 subst h1 h2 h3
 exact⟨none,0,[],rfl,fun k y hy=>by simp at hy,rfl⟩
theorem RScanOut.of {w':World}{base:Nat}{Q Q':List Nat}{A:Option Addr}{n c:Nat}{xs:List Value}{L l:List (Ps×Rc)}{E p:Ps}{err x:Int}(hown:w'.ownsRow base 153 10 (.slice A n c) n xs)(hQ:∀ y∈Q,y<base)(hf:FndX w' Q' l xs)(hs:∀ y∈Q,y∈Q')(hn:l.length=n)(h1:L=l)(h2:E=p)(h3:err=x):RScanOut w' (.returned (.tuple #[.slice A n c,.agg #[.int .i64 p.s,.int .i64 p.o,.int .i64 p.l,.int .i64 p.v,.int .i64 p.m],.int .i64 x])) Q L E err:=by
 subst h1 h2 h3 hn
 obtain⟨A',c',he,_,hv⟩:=own_read hown
 injection he with h1 h2 h3
 subst h1 h3
 exact⟨A,c,xs,rfl,hv Q (fun i hi=> .inl (hQ i hi)),hf.away (fun i hi=> .inl (hs i hi))⟩
theorem scan_away {D:Dk}{a z:Int}{p:Ps}(h:¬(0≤p.o∧p.o≤z-1)):scanOf D a z p false=([],p,0):=by
 have hr:∀ f,p.o<1∨z≤p.o→recs D a z f p=([],p,0):=fun f h=>by
  cases f with
  | zero=>rfl
  | succ f=>unfold recs follow;rw[if_pos h]
 unfold scanOf start
 by_cases h0:p.o=0
 ·rw[if_neg (by simp [h0]),if_pos (by omega)]
 ·rw[if_pos h0]
  exact hr _ (by omega)
set_option maxRecDepth 100000 in
set_option maxHeartbeats 4000000 in
theorem rscan_any (Q G:List Nat)(rd:Nat)(D:Dk)(b s l r q:Int)(p:Ps)(w:World)(h:RD w G rd D)(hb:D.acts≤1000000)(hf:geom.Rf b s l r q)(hQ:∀ x∈Q,x<w.heap.size)(L:List (Ps×Rc))(E:Ps)(err:Int)(hsc:scanOf D (ofSeg none s l r q p.s).2.1 (ofSeg none s l r q p.s).2.2 p false=(L,E,err)):
  Calls Tryz.prog 23 #[.pointer (some ⟨rd,0,none⟩),.agg #[.int .i64 b,.int .i64 s,.int .i64 l],.agg #[.int .i64 p.s,.int .i64 p.o,.int .i64 p.l,.int .i64 p.v,.int .i64 p.m],.int .i64 (-1)] w fun e w'=>RScanOut w' e Q L E err∧Kept [] w w':=by
 obtain⟨b5,hb5⟩:∃ b5,w.heap.size=b5:=⟨_,rfl⟩
 obtain⟨w1,hw1⟩:∃ w1,w.alloc (.cells #[.int .i64 b,.int .i64 s,.int .i64 l] 29)=w1:=⟨_,rfl⟩
 obtain⟨w2,hw2⟩:∃ w2,w1.alloc (.cells #[.int .i64 p.s,.int .i64 p.o,.int .i64 p.l,.int .i64 p.v,.int .i64 p.m] 24)=w2:=⟨_,rfl⟩
 obtain⟨w3,hw3⟩:∃ w3,w2.alloc (.cells #[.int .i64 0,.int .i64 0,.int .i64 0,.int .i64 0,.int .i64 0] 24)=w3:=⟨_,rfl⟩
 obtain⟨b6,hb6⟩:∃ b6,w1.heap.size=b6:=⟨_,rfl⟩
 obtain⟨b9,hb9⟩:∃ b9,w2.heap.size=b9:=⟨_,rfl⟩
 have k1:Kept [] w w1:=by rw[←hw1];exact(Kept.refl [] w).alloc _
 have k2:Kept [] w1 w2:=by rw[←hw2];exact(Kept.refl [] w1).alloc _
 have k3:Kept [] w2 w3:=by rw[←hw3];exact(Kept.refl [] w2).alloc _
 have m1:Blk w1 b5 29 #[.int .i64 b,.int .i64 s,.int .i64 l]:=by rw[←hw1,←hb5];exact Blk.new w _ _
 have m2:Blk w2 b6 24 #[.int .i64 p.s,.int .i64 p.o,.int .i64 p.l,.int .i64 p.v,.int .i64 p.m]:=by rw[←hw2,←hb6];exact Blk.new w1 _ _
 have m3:Blk w3 b9 24 #[.int .i64 0,.int .i64 0,.int .i64 0,.int .i64 0,.int .i64 0]:=by rw[←hw3,←hb9];exact Blk.new w2 _ _
 have HM:=hide (SM.mk (k3.blk (k2.blk m1 (by simp)) (by simp)) (k3.blk m2 (by simp)) m3)
 have HK:=hide ((k1.trans k2 (by simp)).trans k3 (by simp))
 have HSEP:=hide (show w.heap.size≤b5∧b5<b6∧b6<b9 by have a1:=m1.lt;have a2:=m2.lt;omega)
 have HD:=hide (h.kept HK.out (by simp))
 have HOK:=hide h.1
 have HGL:=hide h.lt
 have HF:=hide hf
 have HQ:=hide hQ
 have HAC:=hide hb
 have HSC:=sealed hsc
 obtain⟨c0,c1,c2⟩:w3.cell? ⟨b5,0,none⟩=some (.int .i64 b)∧w3.cell? ⟨b5,1,none⟩=some (.int .i64 s)∧w3.cell? ⟨b5,2,none⟩=some (.int .i64 l):=⟨HM.out.c.cell 0,HM.out.c.cell 1,HM.out.c.cell 2⟩
 obtain⟨p0,p1,p2,p3,p4⟩:=cell5 HM.out.p
 have hok:=hf.ok
 unfold geom.Ok at hok
 have hsb:IntKind.i64.wrap (s-1)=s-1:=IntWalk.i64_in _ (by omega)
 have hlb:IntKind.i64.wrap (l-1)=l-1:=IntWalk.i64_in _ (by omega)
 clear k1 k2 k3 m1 m2 m3 h hf hQ hb hsc
 go_enter Tryz.func23,Tryz.ntmps23
 by_cases hs:0≤p.s∧p.s≤s-1
 ·have HS:=hide hs
  by_cases ho:0≤p.o∧p.o≤l-1
  ·have HO:=hide ho
   clear hs ho
   go_wp2_with fail
   refine(within_yes p.s 0 (s-1) _ HS.out).mono ?_
   rintro e w6 ⟨rfl,rfl⟩
   go_wp2_with fail
   refine(within_yes p.o 0 (l-1) _ HO.out).mono ?_
   rintro e w6 ⟨rfl,rfl⟩
   have HSC2:Seal (scanOf D (geom.segAt s l r q p.s) l p false=(L,E,err)):=sealed (by have:=HSC.out;unfold ofSeg at this;rw[if_pos HS.out]at this;exact this)
   obtain⟨a,haa⟩:∃ a,geom.segAt s l r q p.s=a:=⟨_,rfl⟩
   have hbd:0≤a∧a≤2500:=by rw[←haa];exact seg_bd2 HF.out HS.out
   have HAA:=hide haa
   rw[haa]at HSC2
   clear haa
   by_cases h0:p.o=0
   ·have tz:(p.o==0)=true:=beq_iff_eq.2 h0
    have H0:=hide h0
    clear h0
    go_wp2_with fail
    refine(geom.rsegAt b s l r q p.s _ HF.out).mono ?_
    rintro e w6 ⟨rfl,hk6⟩
    rw[HAA.out]
    have HM6:=hide (HM.out.kept hk6)
    have HK6:=hide (HK.out.trans hk6 (by simp))
    have HD6:=hide (HD.out.kept hk6 (by simp))
    clear hk6 HM HK HD c0 c1 c2 p0 p1 p2 p3 p4
    go_wp2_with fail
    refine(rread_own rd G D a _ HD6.out HAC.out).mono ?_
    rintro e w7 ⟨⟨A1,n1,rfl,hf1,_⟩,hk7⟩
    have HF1:=hide hf1
    have HM:=hide (HM6.out.kept hk7)
    have HK:=hide (HK6.out.trans hk7 (by simp))
    have HD:=hide (HD6.out.kept hk7 (by simp))
    clear hf1 hk7 HM6 HK6 HD6
    have hl64:=read_len64 D HOK.out a
    obtain⟨⟨e1,b1⟩,hr1⟩:∃ y,D.read a=y:=⟨_,rfl⟩
    have HR1:=sealed hr1
    rw[hr1]at HF1 hl64 ⊢
    clear hr1
    dsimp only at HF1 hl64 ⊢
    have HSTART:Seal (start D a l p false=if hd.fits b1 p.s p.l p.v p.m=true then(some ⟨p.s,1,(hd.decode b1).1.l,(hd.decode b1).1.v,(hd.decode b1).1.m⟩,e1)else(none,e1)):=sealed (by
     unfold start
     rw[if_neg (by rw[H0.out];simp),if_neg (by omega),HR1.out]
     by_cases hft:hd.fits b1 p.s p.l p.v p.m=true
     ·have hft2:=hft
      unfold hd.fits at hft2
      rw[Bool.and_eq_true]at hft2
      rw[if_pos ⟨of_decide_eq_true hft2.1,.inr hft⟩,if_pos hft]
     ·rw[if_neg (fun ⟨_,h⟩=>h.elim (fun h=>by cases h) hft),if_neg hft])
    by_cases he1:e1=0
    ·subst he1
     rw[if_pos rfl]at hl64
     have t0:((0:Int) != 0)=false:=rfl
     have hfit:=hd.rfits_any A1 64 n1 b1 p.s p.o p.l p.v p.m w7 (by rw[hl64]at HF1;exact HF1.out.vals) hl64 (by rw[hl64]at HF1;exact HF1.out.2.1) (by omega)
     unfold hd.posVal at hfit
     have HFIT:=hide hfit
     have HL64:=hide hl64
     rw[hl64]at HF1 ⊢
     clear hfit hl64
     obtain⟨p0,p1,p2,p3,p4⟩:=cell5 HM.out.p
     go_wp2_with fail
     refine HFIT.out.mono ?_
     rintro e w8 ⟨rfl,hk8⟩
     have HV8:=hide (HF1.out.vals.kept hk8 (by simp))
     have HNC:=hide HF1.out.2.1
     have HM8:=hide (HM.out.kept hk8)
     have HK8:=hide (HK.out.trans hk8 (by simp))
     have HD8:=hide (HD.out.kept hk8 (by simp))
     clear hk8 HM HK HD HFIT p0 p1 p2 p3 p4
     obtain⟨fb,hfb⟩:∃ fb,hd.fits b1 p.s p.l p.v p.m=fb:=⟨_,rfl⟩
     rw[hfb]at HSTART ⊢
     have HFB:=sealed hfb
     clear hfb
     cases fb with
     | true=>
      rw[if_pos rfl]at HSTART
      obtain⟨⟨H,e2⟩,hde⟩:∃ y,hd.decode b1=y:=⟨_,rfl⟩
      have hql:H.l=p.l∧H.v=p.v:=by
       have h1:=HFB.out
       unfold hd.fits at h1
       rw[hde]at h1
       simp only[Bool.and_eq_true,decide_eq_true_eq]at h1
       exact⟨h1.2.2.1,h1.2.2.2.1⟩
      rw[hde]at HSTART
      dsimp only at HSTART
      rw[hql.1,hql.2]at HSTART
      have HAF:Seal (After D a l L E err [] (⟨p.s,1,p.l,p.v,H.m⟩:Ps) 0 false):=sealed (by
       have h1:=after_begun HSC2.out
       unfold begun at h1
       rw[HSTART.out]at h1
       exact h1)
      have hrof:=hd.rof_any A1 64 n1 b1 w8 HV8.out HL64.out HNC.out (by omega)
      rw[hde]at hrof
      unfold hd.Hd.val at hrof
      have HRO:=hide hrof
      clear hrof hde hql
      go_wp2_with fail
      refine HRO.out.mono ?_
      rintro e w9 ⟨rfl,hk9⟩
      have HM9:=hide (HM8.out.kept hk9)
      have HK9:=hide (HK8.out.trans hk9 (by simp))
      have HD9:=hide (HD8.out.kept hk9 (by simp))
      clear hk9 HM8 HK8 HD8 HRO HV8 HNC
      have kh:Kept [] w9 (w9.alloc (.cells #[.int .i64 H.g,.int .i64 H.m,.int .i64 H.l,.int .i64 H.v] 127)):=(Kept.refl [] w9).alloc _
      have hbh:Blk (w9.alloc (.cells #[.int .i64 H.g,.int .i64 H.m,.int .i64 H.l,.int .i64 H.v] 127)) w9.heap.size 127 #[.int .i64 H.g,.int .i64 H.m,.int .i64 H.l,.int .i64 H.v]:=Blk.new w9 _ _
      have hb6:=kh.blk HM9.out.p (by simp)
      have hne:b6≠w9.heap.size:=by have:=HM9.out.p.lt;omega
      have hk1:Kept [b6] (w9.alloc (.cells #[.int .i64 H.g,.int .i64 H.m,.int .i64 H.l,.int .i64 H.v] 127)) ((w9.alloc (.cells #[.int .i64 H.g,.int .i64 H.m,.int .i64 H.l,.int .i64 H.v] 127)).setCell ⟨b6,1,none⟩ (.int .i64 1)):=(Kept.refl [b6] _).set_ (b:=b6) (.inl (by simp)) 1 _
      have hbb:=hb6.set_ 1 (.int .i64 1)
      have i0:=hb6.cell 1
      have i1:=hb6.frozen 1
      have i2:(w9.alloc (.cells #[.int .i64 H.g,.int .i64 H.m,.int .i64 H.l,.int .i64 H.v] 127)).cell? ⟨b6,1,none⟩=some (.int .i64 p.o):=i0
      have i3:((w9.alloc (.cells #[.int .i64 H.g,.int .i64 H.m,.int .i64 H.l,.int .i64 H.v] 127)).setCell ⟨b6,1,none⟩ (.int .i64 1)).cell? ⟨b6,4,none⟩=some (.int .i64 p.m):=hbb.cell 4
      have i4:=hbb.frozen 4
      have i5:(w9.alloc (.cells #[.int .i64 H.g,.int .i64 H.m,.int .i64 H.l,.int .i64 H.v] 127)).cell? ⟨w9.heap.size,1,none⟩=some (.int .i64 H.m):=hbh.cell 1
      have i6:((w9.alloc (.cells #[.int .i64 H.g,.int .i64 H.m,.int .i64 H.l,.int .i64 H.v] 127)).setCell ⟨b6,1,none⟩ (.int .i64 1)).cell? ⟨w9.heap.size,1,none⟩=some (.int .i64 H.m):=(hk1.blk hbh (by simpa using fun h=>hne h.symm)).cell 1
      have HB6N:Hid (Blk (((w9.alloc (.cells #[.int .i64 H.g,.int .i64 H.m,.int .i64 H.l,.int .i64 H.v] 127)).setCell ⟨b6,1,none⟩ (.int .i64 1)).setCell ⟨b6,4,none⟩ (.int .i64 H.m)) b6 24 #[.int .i64 p.s,.int .i64 1,.int .i64 p.l,.int .i64 p.v,.int .i64 H.m]):=hide (hbb.set_ 4 (.int .i64 H.m))
      have HKN:=hide (show Kept [b6] w9 (((w9.alloc (.cells #[.int .i64 H.g,.int .i64 H.m,.int .i64 H.l,.int .i64 H.v] 127)).setCell ⟨b6,1,none⟩ (.int .i64 1)).setCell ⟨b6,4,none⟩ (.int .i64 H.m))from(((Kept.refl [b6] w9).alloc _).set_ (b:=b6) (.inl (by simp)) 1 _).set_ (b:=b6) (.inl (by simp)) 4 _)
      clear kh hbh hb6 hne hk1 hbb i0
      go_wp2
      generalize (((w9.alloc (.cells #[.int .i64 H.g,.int .i64 H.m,.int .i64 H.l,.int .i64 H.v] 127)).setCell ⟨b6,1,none⟩ (.int .i64 1)).setCell ⟨b6,4,none⟩ (.int .i64 H.m))=w10 at HB6N HKN ⊢
      clear i1 i2 i3 i4 i5 i6
      have hsp:=HSEP.out
      have HM:=hide (SM.mk (p:=(⟨p.s,1,p.l,p.v,H.m⟩:Ps)) (HKN.out.blk HM9.out.c (by simp;omega)) HB6N.out (HKN.out.blk HM9.out.r (by simp;omega)))
      have HK:=hide (HK9.out.trans HKN.out (fun i hi=> .inr (by simp at hi;omega)))
      have HD:=hide (HD9.out.kept HKN.out (fun x hx hm=>by have h2:=HGL.out x hx;simp at hm;omega))
      have HO1:=hide (show(1:Int)≤(⟨p.s,1,p.l,p.v,H.m⟩:Ps).o by show(1:Int)≤1;omega)
      obtain⟨bz,hbz⟩:∃ bz,w10.heap.size=bz:=⟨_,rfl⟩
      have HBZ:=hide (show w.heap.size≤bz∧b9<bz∧bz≤w10.heap.size from⟨by rw[←hbz];exact HK.out.size,by rw[←hbz];exact HM.out.r.lt,by omega⟩)
      clear hbz hsp HB6N HKN HM9 HK9 HD9
      go_loopw [11,16,17,18,19] (fun v _ _ _ _ wr=>∃ (pre:List (Ps×Rc)) (pk:Ps) (A0:Option Addr) (cc:Nat) (xs:List Value),v= .slice A0 pre.length cc∧Hid (pk.s=p.s)∧Hid ((pre.length:Int)+1≤pk.o)∧Seal (After D a l L E err pre pk 0 false)∧Hid (wr.ownsRow bz 153 10 (.slice A0 pre.length cc) pre.length xs)∧Hid (FndX wr (b9::b6::(Q++(Value.slice A0 pre.length cc).ownBlock.toList)) pre xs)∧Hid (RD wr G rd D)∧Hid (SM wr b5 b6 b9 b s l pk)∧Hid (Kept [] w wr)∧Hid (bz≤wr.heap.size)) (fun _ _ _ _ _ wr=>match wr.cell? ⟨b6,1,none⟩with|some (.int _ o)=>(l-o).toNat|_=>0)
      case atStart=>exact⟨[],(⟨p.s,1,p.l,p.v,H.m⟩:Ps),none,0,[],rfl,hide rfl,hide (by have:=HO1.out;first|(simp;omega)|(simp;done)),HAF,hide (World.ownsRow_nil _ _ _ _),hide rfl,HD,HM,HK,hide HBZ.out.2.2⟩
      case round=>
       clear HM HK HD
       obtain⟨pre,pk,A0,cc,xs,rfl,HPK,HPO,HAF,HOW,HFX,HD,HM,HK,HZ⟩:=hrel
       obtain⟨c0,c1,c2⟩:wr.cell? ⟨b5,0,none⟩=some (.int .i64 b)∧wr.cell? ⟨b5,1,none⟩=some (.int .i64 s)∧wr.cell? ⟨b5,2,none⟩=some (.int .i64 l):=⟨HM.out.c.cell 0,HM.out.c.cell 1,HM.out.c.cell 2⟩
       obtain⟨p0,p1,p2,p3,p4⟩:=cell5 HM.out.p
       have HMU:=hide (show(match wr.cell? ⟨b6,1,none⟩with|some (.int _ o)=>(l-o).toNat|_=>0)=(l-pk.o).toNat by rw[p1])
       have HFO:=hide (rfollow_any (b9::b6::(Q++(Value.slice A0 pre.length cc).ownBlock.toList)) G rd D b s l r q pk wr HD.out HAC.out HF.out (by rw[HPK.out];exact HS.out) (fun y hy=>by
        simp only[List.mem_cons,List.mem_append]at hy
        rcases hy with rfl|rfl|hy|hy
        ·exact HM.out.r.lt
        ·exact HM.out.p.lt
        ·exact Nat.lt_of_lt_of_le (HQ.out y hy) HK.out.size
        ·exact(own_blk HOW.out y hy).2.1))
       rw[show geom.segAt s l r q pk.s=a by rw[HPK.out];exact HAA.out]at HFO
       have HOLT:=hide (show ∀ y∈(Value.slice A0 pre.length cc).ownBlock.toList,b9<y∧y<wr.heap.size from fun y hy=>⟨by have h1:=(own_blk HOW.out y hy).1;have h2:=HBZ.out;omega,(own_blk HOW.out y hy).2.1⟩)
       go_wp2_with fail
       refine HFO.out.mono ?_
       rintro e w8 ⟨hfo,hk8⟩
       have HM8:=hide (HM.out.kept hk8)
       have HK8:=hide (HK.out.trans hk8 (by simp))
       have HD8:=hide (HD.out.kept hk8 (by simp))
       have HOW8:=hide (own_keep HOW.out hk8 (by simp))
       have HFX8:=hide (HFX.out.kept hk8 (by simp))
       have HZ8:=hide (Nat.le_trans HZ.out hk8.size)
       have HOLT8:=hide (show ∀ y∈(Value.slice A0 pre.length cc).ownBlock.toList,b9<y∧y<w8.heap.size from fun y hy=>⟨(HOLT.out y hy).1,Nat.lt_of_lt_of_le (HOLT.out y hy).2 hk8.size⟩)
       clear c0 c1 c2 p0 p1 p2 p3 p4 HFO HM HK HD HOW HFX HZ HOLT hk8
       rcases hfo.symm with⟨e2,hfol,rfl⟩|⟨R,sm,Li,n,lc,P,k,pc,hfol,rfl,hrc⟩
       ·have HEQ:=hide (after_none HAF.out hfol)
        clear hfol
        have kN:Kept [] w8 ((w8.alloc (.cells #[.int .i64 0,.int .i64 0,.int .i64 0,.slice none 0 0,.slice none 0 0] 111)).alloc (.cells #[.int .i64 pk.s,.int .i64 pk.o,.int .i64 pk.l,.int .i64 pk.v,.int .i64 pk.m] 24)):=((Kept.refl [] w8).alloc _).alloc _
        have HM:=hide (HM8.out.kept kN)
        have HK:=hide (HK8.out.trans kN (by simp))
        have HOWN:=hide (own_keep HOW8.out kN (by simp))
        have HFN:=hide (HFX8.out.kept kN (by simp))
        clear kN
        obtain⟨p0,p1,p2,p3,p4⟩:=cell5 HM.out.p
        obtain⟨r0,r1,r2,r3,r4⟩:=cell5 HM.out.r
        have fr:=HM.out.r.frozen
        have fr0:=fr 0
        have fr1:=fr 1
        have fr2:=fr 2
        have fr3:=fr 3
        have fr4:=fr 4
        have HBA:=hide ((put5 (.int .i64 pk.s) (.int .i64 pk.o) (.int .i64 pk.l) (.int .i64 pk.v) (.int .i64 pk.m) HM.out.r).drew)
        have HKA:=hide ((put5_kept (g:=b9) (S:=[b9]) (.int .i64 pk.s) (.int .i64 pk.o) (.int .i64 pk.l) (.int .i64 pk.v) (.int .i64 pk.m) (Kept.refl [b9] ((w8.alloc (.cells #[.int .i64 0,.int .i64 0,.int .i64 0,.slice none 0 0,.slice none 0 0] 111)).alloc (.cells #[.int .i64 pk.s,.int .i64 pk.o,.int .i64 pk.l,.int .i64 pk.v,.int .i64 pk.m] 24))) (.inl (by simp))).drew)
        clear fr
        go_wp2
        refine wp_region_noPanic ?_
        refine wp_region_held_drew (S:=fun W=>True∧W.cell? ⟨b6,0,none⟩=some (.int .i64 pk.s)∧W.cell? ⟨b6,1,none⟩=some (.int .i64 pk.o)∧W.cell? ⟨b6,2,none⟩=some (.int .i64 pk.l)∧W.cell? ⟨b6,3,none⟩=some (.int .i64 pk.v)∧W.cell? ⟨b6,4,none⟩=some (.int .i64 pk.m)) (by kernel_rfl) (by exact⟨trivial,p0,p1,p2,p3,p4⟩) (fun hHeld=> ?_)
        refine tK 0 86 rfl ?_
        try simp only[Act.put,pA,pB,pC]
        refine tK 1 87 rfl ?_
        try simp only[Act.put,pA,pB,pC]
        refine tK 2 88 rfl ?_
        try simp only[Act.put,pA,pB,pC]
        refine tK 3 8 rfl ?_
        try simp only[Act.put,pA,pB,pC]
        refine hO 4 none rfl fun K hK=> ?_
        go_simp
        generalize (World.setCell (World.setCell (World.setCell (World.setCell (World.setCell ((w8.alloc (.cells #[.int .i64 0,.int .i64 0,.int .i64 0,.slice none 0 0,.slice none 0 0] 111)).alloc (.cells #[.int .i64 pk.s,.int .i64 pk.o,.int .i64 pk.l,.int .i64 pk.v,.int .i64 pk.m] 24)) ⟨b9,0,none⟩ (.int .i64 pk.s)) ⟨b9,1,none⟩ (.int .i64 pk.o)) ⟨b9,2,none⟩ (.int .i64 pk.l)) ⟨b9,3,none⟩ (.int .i64 pk.v)) ⟨b9,4,none⟩ (.int .i64 pk.m)).drew=wA at HBA HKA ⊢
        obtain⟨p0,p1,p2,p3,p4⟩:=cell5 (HKA.out.blk HM.out.p (by have:=HSEP.out;simp;omega))
        refine hK.out _ _ (by exact⟨trivial,p0,p1,p2,p3,p4⟩) (fun hHeld=> ?_)
        clear hK K
        try simp only[Act.put,pA,pB,pC]
        refine tK 5 10 rfl ?_
        try simp only[Act.put,pA,pB,pC]
        refine wpAnyH_done (by kernel_rfl) ?_ _
        refine NoPanic.normal ?_
        go_wp2
        obtain⟨v0,v1,v2,v3,v4⟩:=cell5 HBA.out
        have HK9:=hide (HK.out.trans HKA.out (fun i hi=>by simp at hi;subst hi;have:=HSEP.out;exact .inr (by omega)))
        refine bodyPost_ret (v:= .tuple #[.slice A0 pre.length cc,.agg #[.int .i64 pk.s,.int .i64 pk.o,.int .i64 pk.l,.int .i64 pk.v,.int .i64 pk.m],.int .i64 e2]) ?_ rfl ⟨RScanOut.of (own_keep HOWN.out HKA.out (fun i hi hm=>by simp at hi;subst hi;have:=(HOLT8.out _ hm).1;omega)) (fun y hy=>Nat.lt_of_lt_of_le (HQ.out y hy) HBZ.out.1) (HFN.out.kept HKA.out (fun i hi=>by simp at hi;simp [hi])) (fun y hy=>by simp [hy]) rfl HEQ.out.1 HEQ.out.2.1 HEQ.out.2.2,HK9.out⟩
        simp [results,Tryz.results23,go_sem,v0,v1,v2,v3,v4]
       ·obtain⟨HROK,_,_,_,hlen⟩:=follow_ok HOK.out hfol
        have hin:=follow_in hfol
        have HRA:=sealed (after_some HAF.out hfol).1
        obtain⟨y,hy⟩:∃ y,behind pk R sm=y:=⟨_,rfl⟩
        have HYO:=hide (show pk.o+1≤y.o by rw[←hy];show pk.o+1≤pk.o+lenOf R;unfold lenOf;omega)
        have HYS:=hide (show y.s=pk.s by rw[←hy];rfl)
        rw[hy]at HRA ⊢
        have HRC:=hide hrc
        have HRO:=hide HROK
        have HPL:=hide (show pre.length≤64 by have:=HPO.out;omega)
        have hpl:pre.length≤64:=HPL.out
        have HIN:=hide hin
        clear hy hfol hrc HROK hlen hin
        unfold Ps.val
        have b16:Blk ((w8.alloc (.cells #[.int .i64 R.m,.int .i64 R.l,.int .i64 R.p,.slice Li n lc,.slice P k pc] 111)).alloc (.cells #[.int .i64 y.s,.int .i64 y.o,.int .i64 y.l,.int .i64 y.v,.int .i64 y.m] 24)) w8.heap.size 111 #[.int .i64 R.m,.int .i64 R.l,.int .i64 R.p,.slice Li n lc,.slice P k pc]:=(Blk.new w8 _ _).alloc _
        have b17:Blk ((w8.alloc (.cells #[.int .i64 R.m,.int .i64 R.l,.int .i64 R.p,.slice Li n lc,.slice P k pc] 111)).alloc (.cells #[.int .i64 y.s,.int .i64 y.o,.int .i64 y.l,.int .i64 y.v,.int .i64 y.m] 24)) (w8.heap.size+1) 24 #[.int .i64 y.s,.int .i64 y.o,.int .i64 y.l,.int .i64 y.v,.int .i64 y.m]:=by
         have:=Blk.new (w8.alloc (.cells #[.int .i64 R.m,.int .i64 R.l,.int .i64 R.p,.slice Li n lc,.slice P k pc] 111)) 24 #[.int .i64 y.s,.int .i64 y.o,.int .i64 y.l,.int .i64 y.v,.int .i64 y.m]
         simpa using this
        have kY:Kept [] w8 ((w8.alloc (.cells #[.int .i64 R.m,.int .i64 R.l,.int .i64 R.p,.slice Li n lc,.slice P k pc] 111)).alloc (.cells #[.int .i64 y.s,.int .i64 y.o,.int .i64 y.l,.int .i64 y.v,.int .i64 y.m] 24)):=((Kept.refl [] w8).alloc _).alloc _
        have hszY:((w8.alloc (.cells #[.int .i64 R.m,.int .i64 R.l,.int .i64 R.p,.slice Li n lc,.slice P k pc] 111)).alloc (.cells #[.int .i64 y.s,.int .i64 y.o,.int .i64 y.l,.int .i64 y.v,.int .i64 y.m] 24)).heap.size=w8.heap.size+2:=by simp
        have HSZY:=hide hszY
        have HMY:=hide (HM8.out.kept kY)
        have HKY:=hide (HK8.out.trans kY (by simp))
        have HDY:=hide (HD8.out.kept kY (by simp))
        have HB16:=hide b16
        have HB17:=hide b17
        have HOWY:=hide (fun o:Obj=>own_keep HOW8.out (kY.alloc o) (by simp))
        have HF0:=hide (HFX8.out.kept kY (by simp))
        have HR0:=hide (HRC.out.kept kY (by simp))
        have HNW:=hide (show Vals (((w8.alloc (.cells #[.int .i64 R.m,.int .i64 R.l,.int .i64 R.p,.slice Li n lc,.slice P k pc] 111)).alloc (.cells #[.int .i64 y.s,.int .i64 y.o,.int .i64 y.l,.int .i64 y.v,.int .i64 y.m] 24)).alloc (.cells #[.int .i64 pk.s,.int .i64 pk.o,.int .i64 pk.l,.int .i64 pk.v,.int .i64 pk.m,.int .i64 R.m,.int .i64 R.l,.int .i64 R.p,.slice Li n lc,.slice P k pc] 153)) [] (some ⟨w8.heap.size+1+1,0,none⟩) [.int .i64 pk.s,.int .i64 pk.o,.int .i64 pk.l,.int .i64 pk.v,.int .i64 pk.m,.int .i64 R.m,.int .i64 R.l,.int .i64 R.p,.slice Li n lc,.slice P k pc]from by
         have:=Vals.lit ((w8.alloc (.cells #[.int .i64 R.m,.int .i64 R.l,.int .i64 R.p,.slice Li n lc,.slice P k pc] 111)).alloc (.cells #[.int .i64 y.s,.int .i64 y.o,.int .i64 y.l,.int .i64 y.v,.int .i64 y.m] 24)) [] 153 #[.int .i64 pk.s,.int .i64 pk.o,.int .i64 pk.l,.int .i64 pk.v,.int .i64 pk.m,.int .i64 R.m,.int .i64 R.l,.int .i64 R.p,.slice Li n lc,.slice P k pc] (0,0) [.int .i64 pk.s,.int .i64 pk.o,.int .i64 pk.l,.int .i64 pk.v,.int .i64 pk.m,.int .i64 R.m,.int .i64 R.l,.int .i64 R.p,.slice Li n lc,.slice P k pc] rfl (by simp)
         simpa using this)
        obtain⟨r0,r1,r2,r3,r4⟩:=cell5 b16
        obtain⟨p0,p1,p2,p3,p4⟩:=cell5 HMY.out.p
        clear b16 b17 kY hszY HM8 HK8 HD8 HOW8 HFX8 HRC
        go_wp2_with (at_builtin;refine wpList_append_vals rfl (.tmp 89) (.tmp 93) 53 rfl bz 153 (.agg #[.int .i64 0,.int .i64 0,.int .i64 0,.int .i64 0,.int .i64 0,.int .i64 0,.int .i64 0,.int .i64 0,.slice none 0 0,.slice none 0 0]) 10 112 Tryz.underlying53 foundX_info rfl (by omega) (.slice A0 pre.length cc) pre.length xs rfl (HOWY.out _) [] (some ⟨w8.heap.size+1+1,0,none⟩) 1 1 [.int .i64 pk.s,.int .i64 pk.o,.int .i64 pk.l,.int .i64 pk.v,.int .i64 pk.m,.int .i64 R.m,.int .i64 R.l,.int .i64 R.p,.slice Li n lc,.slice P k pc] rfl rfl HNW.out (by simp [Value.oneCell']) (by simp only[maxLen];omega) (by omega) (by have h1:=HZ8.out;have h2:=HSZY.out;simp<;>omega) ?_;intro v9 w9 hown9 hk9 hat9;obtain⟨A9,c9,rfl,_,_⟩:=own_read hown9;have HOWN9:=hide hown9;have hf9:∀ i∈(Value.slice A0 pre.length cc).ownBlock.toList,b9<i:=fun i hi=>(HOLT8.out i hi).1;have hf8:∀ i∈(Value.slice A0 pre.length cc).ownBlock.toList,i<w8.heap.size:=fun i hi=>(HOLT8.out i hi).2;have hsp:=HSEP.out;have hb6:=hk9.blk (HMY.out.p.alloc _) (fun hm=>by have:=hf9 _ hm;omega);have hb5:=hk9.blk (HMY.out.c.alloc _) (fun hm=>by have:=hf9 _ hm;omega);have hb9:=hk9.blk (HMY.out.r.alloc _) (fun hm=>by have:=hf9 _ hm;omega);have h17:=hk9.blk (HB17.out.alloc _) (fun hm=>by have:=hf8 _ hm;omega);have h16:=hk9.blk (HB16.out.alloc _) (fun hm=>by have:=hf8 _ hm;omega);have h6lt:b6<w8.heap.size:=(by have:=HZ8.out;have:=HBZ.out;omega);clear p0 p1 p2 p3 p4 r0 r1 r2 r3 r4;obtain⟨p0,p1,p2,p3,p4⟩:=cell5 hb6;obtain⟨y0,y1,y2,y3,y4⟩:=cell5 h17;have fr:=hb6.frozen;have fr0:=fr 0;have fr1:=fr 1;have fr2:=fr 2;have fr3:=fr 3;have fr4:=fr 4;have HB6N:=hide (put5 (.int .i64 y.s) (.int .i64 y.o) (.int .i64 y.l) (.int .i64 y.v) (.int .i64 y.m) hb6);have HK6N:=hide (put5_kept (g:=b6) (S:=[b6]) (.int .i64 y.s) (.int .i64 y.o) (.int .i64 y.l) (.int .i64 y.v) (.int .i64 y.m) (Kept.refl [b6] w9) (.inl (by simp)));obtain⟨r0,r1,r2,r3,r4⟩:=cell5 (HK6N.out.blk h16 (by simp<;>omega));have HKX:=hide (show Kept (Value.slice A0 pre.length cc).ownBlock.toList ((w8.alloc (.cells #[.int .i64 R.m,.int .i64 R.l,.int .i64 R.p,.slice Li n lc,.slice P k pc] 111)).alloc (.cells #[.int .i64 y.s,.int .i64 y.o,.int .i64 y.l,.int .i64 y.v,.int .i64 y.m] 24)) w9 from((Kept.refl ((Value.slice A0 pre.length cc).ownBlock.toList) ((w8.alloc (.cells #[.int .i64 R.m,.int .i64 R.l,.int .i64 R.p,.slice Li n lc,.slice P k pc] 111)).alloc (.cells #[.int .i64 y.s,.int .i64 y.o,.int .i64 y.l,.int .i64 y.v,.int .i64 y.m] 24))).alloc _).trans hk9 (fun i hi=> .inl hi));have HAT:=hide hat9;have HC5:=hide hb5;have HC9:=hide hb9;clear hown9 hf9 hf8 hsp hb6 hb5 hb9 h17 h16 h6lt fr hk9 hat9)
        clear r0 r1 r2 r3 r4 p0 p1 p2 p3 p4 y0 y1 y2 y3 y4 fr0 fr1 fr2 fr3 fr4
        generalize World.setCell (World.setCell (World.setCell (World.setCell (World.setCell w9 ⟨b6,0,none⟩ (.int .i64 y.s)) ⟨b6,1,none⟩ (.int .i64 y.o)) ⟨b6,2,none⟩ (.int .i64 y.l)) ⟨b6,3,none⟩ (.int .i64 y.v)) ⟨b6,4,none⟩ (.int .i64 y.m)=w12 at HB6N HK6N ⊢
        obtain⟨pre2,hp2⟩:∃ pre2,pre++[(pk,R)]=pre2:=⟨_,rfl⟩
        have hl2:pre2.length=pre.length+1:=by rw[←hp2];simp
        have HO9:=hide (show ∀ i∈(Value.slice A9 (pre.length+1) c9).ownBlock.toList,b9<i from fun i hi=>by have h1:=(own_blk HOWN9.out i hi).1;have h2:=HBZ.out;omega)
        have hsub:∀ i∈(Value.slice A9 (pre.length+1) c9).ownBlock.toList,i∈(Value.slice A0 pre.length cc).ownBlock.toList∨((w8.alloc (.cells #[.int .i64 R.m,.int .i64 R.l,.int .i64 R.p,.slice Li n lc,.slice P k pc] 111)).alloc (.cells #[.int .i64 y.s,.int .i64 y.o,.int .i64 y.l,.int .i64 y.v,.int .i64 y.m] 24)).heap.size≤i:=fun i hi=>HAT.out.elim (fun h=> .inl (by rw[←h];exact hi)) (fun h=> .inr (by rw[h]at hi;simp at hi;simp;omega))
        have hF1:=FndX.snoc (c:=lc) (d:=pc) pk R HR0.out HF0.out
        rw[hp2]at hF1 HRA
        have hF2:=(((hF1.away (S':=(b9::b6::(Q++(Value.slice A0 pre.length cc).ownBlock.toList))++(Value.slice A9 (pre.length+1) c9).ownBlock.toList) (fun i hi=>(List.mem_append.1 hi).elim .inl (fun h=>(hsub i h).imp (fun h=>by simp only[List.mem_cons,List.mem_append];exact .inr (.inr (.inr h))) id))).kept HKX.out (fun i hi=>by simp only[List.mem_cons,List.mem_append];exact .inl (.inr (.inr (.inr hi))))).kept HK6N.out (fun i hi=>by simp at hi;subst hi;simp)).away (S':=b9::b6::(Q++(Value.slice A9 (pre.length+1) c9).ownBlock.toList)) (fun i hi=> .inl (by
         simp only[List.mem_cons,List.mem_append]at hi ⊢
         rcases hi with hi|hi|hi|hi
         ·exact .inl (.inl hi)
         ·exact .inl (.inr (.inl hi))
         ·exact .inl (.inr (.inr (.inl hi)))
         ·exact .inr hi))
        have hR12:=((HR0.out.kept HKX.out (fun i hi=>by simp only[List.mem_cons,List.mem_append];exact .inr (.inr (.inr hi)))).kept HK6N.out (fun i hi=>by simp at hi;subst hi;simp)).away (S':=[]) (by simp)
        have hsp:=HSEP.out
        have HM12:=hide (SM.mk (p:=y) (HK6N.out.blk HC5.out (by simp;omega)) HB6N.out (HK6N.out.blk HC9.out (by simp;omega)))
        have HK12:=hide ((HKY.out.trans HKX.out (fun i hi=> .inr (by have:=(HOLT8.out i hi).1;omega))).trans HK6N.out (fun i hi=> .inr (by simp at hi;omega)))
        have HD12:=hide ((HDY.out.kept HKX.out (fun x hx hm=>by have h1:=(HOLT8.out x hm).1;have h2:=HGL.out x hx;omega)).kept HK6N.out (fun x hx hm=>by have h2:=HGL.out x hx;simp at hm;omega))
        have HOW12:=hide (own_keep HOWN9.out HK6N.out (fun i hi hm=>by simp at hi;have:=HO9.out i hm;omega))
        have HSZ12:=hide (show bz≤w12.heap.size by have h1:=HZ8.out;have h2:=HKX.out.size;have h3:=HK6N.out.size;have h4:=HSZY.out;omega)
        have HF12:=hide hF2
        have hits:R.its.length=n:=hR12.hn
        have hnm:=nextVal_may R.its HRO.out.2.2.2.2.1
        have h6:=HRO.out.2.2.2.1.2
        have HP2:=hide hp2
        clear hsub hF1 hF2 hsp HAT HKX HK6N HB6N HC5 HC9 HOWN9 HKY HDY HR0 HF0 HMY HB16 HB17 HNW HOWY hp2
        refine(rnextOf_any R Li P n lc k pc w12 hR12.its hits (by omega)).mono ?_
        rintro e w13 ⟨rfl,hk13⟩
        have HM:=hide (HM12.out.kept hk13)
        have HK:=hide (HK12.out.trans hk13 (by simp))
        have HD:=hide (HD12.out.kept hk13 (by simp))
        have HOWE:=hide (own_keep HOW12.out hk13 (by simp))
        have HFE:=hide (HF12.out.kept hk13 (by simp))
        have HSZ:=hide (Nat.le_trans HSZ12.out hk13.size)
        obtain⟨nv,hnv⟩:∃ nv,nextVal R.its=nv:=⟨_,rfl⟩
        obtain⟨nx,hnx⟩:∃ nx,hasNext R=nx:=⟨_,rfl⟩
        rw[hnv,show(R.its.any fun i=>decide (i.k=7))=nx from hnx]at hnm
        rw[hnv]
        rw[hnx]at HRA
        have hnm':decide (nv≥0)=nx:=hnm
        clear hnv hnx hnm hits h6 hR12 hk13 HM12 HK12 HD12 HOW12 HF12 HSZ12
        cases nx with
        | true=>
         have HEQ:=hide (show L=pre2∧E=y∧err=0 from by
          have h:=HRA.out
          generalize hz:(0:Int)=z0 at h
          generalize hb:true=bb at h
          cases h with
          | on=>cases hb
          | over h1 h2=>exact⟨h1,h2,by first|rfl|exact hz.symm⟩)
         have HL2:=hide hl2
         obtain⟨p0,p1,p2,p3,p4⟩:=cell5 HM.out.p
         obtain⟨r0,r1,r2,r3,r4⟩:=cell5 HM.out.r
         have fr:=HM.out.r.frozen
         have fr0:=fr 0
         have fr1:=fr 1
         have fr2:=fr 2
         have fr3:=fr 3
         have fr4:=fr 4
         have HBA:=hide ((put5 (.int .i64 y.s) (.int .i64 y.o) (.int .i64 y.l) (.int .i64 y.v) (.int .i64 y.m) HM.out.r).drew)
         have HKA:=hide ((put5_kept (g:=b9) (S:=[b9]) (.int .i64 y.s) (.int .i64 y.o) (.int .i64 y.l) (.int .i64 y.v) (.int .i64 y.m) (Kept.refl [b9] w13) (.inl (by simp))).drew)
         clear fr
         go_wp2
         refine wp_region_noPanic ?_
         refine wp_region_held_drew (S:=fun W=>True∧W.cell? ⟨b6,0,none⟩=some (.int .i64 y.s)∧W.cell? ⟨b6,1,none⟩=some (.int .i64 y.o)∧W.cell? ⟨b6,2,none⟩=some (.int .i64 y.l)∧W.cell? ⟨b6,3,none⟩=some (.int .i64 y.v)∧W.cell? ⟨b6,4,none⟩=some (.int .i64 y.m)) (by kernel_rfl) (by exact⟨trivial,p0,p1,p2,p3,p4⟩) (fun hHeld=> ?_)
         refine tK 0 99 rfl ?_
         try simp only[Act.put,pA,pB,pC]
         refine tK 1 100 rfl ?_
         try simp only[Act.put,pA,pB,pC]
         refine tK 2 8 rfl ?_
         try simp only[Act.put,pA,pB,pC]
         refine hO 3 none rfl fun K hK=> ?_
         go_simp
         generalize (World.setCell (World.setCell (World.setCell (World.setCell (World.setCell w13 ⟨b9,0,none⟩ (.int .i64 y.s)) ⟨b9,1,none⟩ (.int .i64 y.o)) ⟨b9,2,none⟩ (.int .i64 y.l)) ⟨b9,3,none⟩ (.int .i64 y.v)) ⟨b9,4,none⟩ (.int .i64 y.m)).drew=wA at HBA HKA ⊢
         obtain⟨p0,p1,p2,p3,p4⟩:=cell5 (HKA.out.blk HM.out.p (by have:=HSEP.out;simp;omega))
         refine hK.out _ _ (by exact⟨trivial,p0,p1,p2,p3,p4⟩) (fun hHeld=> ?_)
         clear hK K
         try simp only[Act.put,pA,pB,pC]
         refine tK 4 10 rfl ?_
         try simp only[Act.put,pA,pB,pC]
         refine wpAnyH_done (by kernel_rfl) ?_ _
         refine NoPanic.normal ?_
         go_wp2
         obtain⟨v0,v1,v2,v3,v4⟩:=cell5 HBA.out
         have HK9:=hide (HK.out.trans HKA.out (fun i hi=>by simp at hi;subst hi;have:=HSEP.out;exact .inr (by omega)))
         refine bodyPost_ret (v:= .tuple #[.slice A9 (pre.length+1) c9,.agg #[.int .i64 y.s,.int .i64 y.o,.int .i64 y.l,.int .i64 y.v,.int .i64 y.m],.int .i64 0]) ?_ rfl ⟨RScanOut.of (own_keep HOWE.out HKA.out (fun i hi hm=>by simp at hi;subst hi;have:=HO9.out _ hm;omega)) (fun y hy=>Nat.lt_of_lt_of_le (HQ.out y hy) HBZ.out.1) (HFE.out.kept HKA.out (fun i hi=>by simp at hi;simp [hi])) (fun y hy=>by simp [hy]) HL2.out HEQ.out.1 HEQ.out.2.1 HEQ.out.2.2,HK9.out⟩
         simp [results,Tryz.results23,go_sem,v0,v1,v2,v3,v4]
        | false=>
         have hyo:=(cell5 HM.out.p).2.1
         go_wp2
         go_roundw
         case rel=>exact⟨pre2,y,A9,c9,xs++[.int .i64 pk.s,.int .i64 pk.o,.int .i64 pk.l,.int .i64 pk.v,.int .i64 pk.m,.int .i64 R.m,.int .i64 R.l,.int .i64 R.p,.slice Li n lc,.slice P k pc],by rw[hl2],hide (HYS.out.trans HPK.out),hide (by have h1:=HPO.out;have h2:=HYO.out;rw[hl2];push_cast;omega),HRA,hide (by rw[hl2];exact HOWE.out),hide (by rw[hl2];exact HFE.out),HD,HM,HK,HSZ⟩
         case measure=>
          have h1:=HYO.out
          have h2:=HIN.out
          rw[HMU.out,hyo]
          show(l-y.o).toNat<(l-pk.o).toNat
          omega
     | false=>
      have HE0:=hide (show L=[]∧E=p∧err=0 by
       have h1:=HSC2.out
       unfold scanOf at h1
       rw[HSTART.out,if_neg (by simp)]at h1
       injection h1 with h2 h3
       injection h3 with h4 h5
       exact⟨h2.symm,h4.symm,h5.symm⟩)
      have HM:=HM8
      have HK:=HK8
      clear HM8 HK8
      obtain⟨p0,p1,p2,p3,p4⟩:=cell5 HM.out.p
      obtain⟨r0,r1,r2,r3,r4⟩:=cell5 HM.out.r
      have fr:=HM.out.r.frozen
      have fr0:=fr 0
      have fr1:=fr 1
      have fr2:=fr 2
      have fr3:=fr 3
      have fr4:=fr 4
      have HBA:=hide ((put5 (.int .i64 p.s) (.int .i64 p.o) (.int .i64 p.l) (.int .i64 p.v) (.int .i64 p.m) HM.out.r).drew)
      have HKA:=hide ((put5_kept (g:=b9) (S:=[b9]) (.int .i64 p.s) (.int .i64 p.o) (.int .i64 p.l) (.int .i64 p.v) (.int .i64 p.m) (Kept.refl [b9] w8) (.inl (by simp))).drew)
      clear fr
      go_wp2
      refine wp_region_noPanic ?_
      refine wp_region_held_drew (S:=fun W=>True∧W.cell? ⟨b6,0,none⟩=some (.int .i64 p.s)∧W.cell? ⟨b6,1,none⟩=some (.int .i64 p.o)∧W.cell? ⟨b6,2,none⟩=some (.int .i64 p.l)∧W.cell? ⟨b6,3,none⟩=some (.int .i64 p.v)∧W.cell? ⟨b6,4,none⟩=some (.int .i64 p.m)) (by kernel_rfl) (by exact⟨trivial,p0,p1,p2,p3,p4⟩) (fun hHeld=> ?_)
      refine tK 0 57 rfl ?_
      try simp only[Act.put,pA,pB,pC]
      refine tK 1 8 rfl ?_
      try simp only[Act.put,pA,pB,pC]
      refine hO 2 none rfl fun K hK=> ?_
      go_simp
      generalize (World.setCell (World.setCell (World.setCell (World.setCell (World.setCell w8 ⟨b9,0,none⟩ (.int .i64 p.s)) ⟨b9,1,none⟩ (.int .i64 p.o)) ⟨b9,2,none⟩ (.int .i64 p.l)) ⟨b9,3,none⟩ (.int .i64 p.v)) ⟨b9,4,none⟩ (.int .i64 p.m)).drew=wA at HBA HKA ⊢
      obtain⟨p0,p1,p2,p3,p4⟩:=cell5 (HKA.out.blk HM.out.p (by have:=HSEP.out;simp;omega))
      refine hK.out _ _ (by exact⟨trivial,p0,p1,p2,p3,p4⟩) (fun hHeld=> ?_)
      clear hK K
      try simp only[Act.put,pA,pB,pC]
      refine tK 3 10 rfl ?_
      try simp only[Act.put,pA,pB,pC]
      refine wpAnyH_done (by kernel_rfl) ?_ _
      refine NoPanic.normal ?_
      go_wp2
      obtain⟨v0,v1,v2,v3,v4⟩:=cell5 HBA.out
      have HK9:=hide (HK.out.trans HKA.out (fun i hi=>by simp at hi;subst hi;have:=HSEP.out;exact .inr (by omega)))
      refine bodyPost_ret (v:= .tuple #[.slice none 0 0,.agg #[.int .i64 p.s,.int .i64 p.o,.int .i64 p.l,.int .i64 p.v,.int .i64 p.m],.int .i64 0]) ?_ rfl ⟨RScanOut.nil HE0.out.1 HE0.out.2.1 HE0.out.2.2,HK9.out⟩
      simp [results,Tryz.results23,go_sem,v0,v1,v2,v3,v4]
    ·have t0:(e1 != 0)=true:=bne_iff_ne.2 he1
     have HE0:=hide (show L=[]∧E=p∧err=e1 by
      rw[if_neg he1]at hl64
      have hb1:b1=[]:=List.eq_nil_of_length_eq_zero hl64
      have hnf:¬(hd.fits b1 p.s p.l p.v p.m=true):=by
       rw[hb1]
       unfold hd.fits
       rw[hd_nil]
       simp
      have h1:=HSC2.out
      unfold scanOf at h1
      rw[HSTART.out,if_neg hnf]at h1
      injection h1 with h2 h3
      injection h3 with h4 h5
      exact⟨h2.symm,h4.symm,h5.symm⟩)
     clear he1 hl64
     obtain⟨p0,p1,p2,p3,p4⟩:=cell5 HM.out.p
     obtain⟨r0,r1,r2,r3,r4⟩:=cell5 HM.out.r
     have fr:=HM.out.r.frozen
     have fr0:=fr 0
     have fr1:=fr 1
     have fr2:=fr 2
     have fr3:=fr 3
     have fr4:=fr 4
     have HBA:=hide ((put5 (.int .i64 p.s) (.int .i64 p.o) (.int .i64 p.l) (.int .i64 p.v) (.int .i64 p.m) HM.out.r).drew)
     have HKA:=hide ((put5_kept (g:=b9) (S:=[b9]) (.int .i64 p.s) (.int .i64 p.o) (.int .i64 p.l) (.int .i64 p.v) (.int .i64 p.m) (Kept.refl [b9] w7) (.inl (by simp))).drew)
     clear fr
     go_wp2
     refine wp_region_noPanic ?_
     refine wp_region_held_drew (S:=fun W=>True∧W.cell? ⟨b6,0,none⟩=some (.int .i64 p.s)∧W.cell? ⟨b6,1,none⟩=some (.int .i64 p.o)∧W.cell? ⟨b6,2,none⟩=some (.int .i64 p.l)∧W.cell? ⟨b6,3,none⟩=some (.int .i64 p.v)∧W.cell? ⟨b6,4,none⟩=some (.int .i64 p.m)) (by kernel_rfl) (by exact⟨trivial,p0,p1,p2,p3,p4⟩) (fun hHeld=> ?_)
     refine tK 0 51 rfl ?_
     try simp only[Act.put,pA,pB,pC]
     refine tK 1 52 rfl ?_
     try simp only[Act.put,pA,pB,pC]
     refine tK 2 8 rfl ?_
     try simp only[Act.put,pA,pB,pC]
     refine hO 3 none rfl fun K hK=> ?_
     go_simp
     generalize (World.setCell (World.setCell (World.setCell (World.setCell (World.setCell w7 ⟨b9,0,none⟩ (.int .i64 p.s)) ⟨b9,1,none⟩ (.int .i64 p.o)) ⟨b9,2,none⟩ (.int .i64 p.l)) ⟨b9,3,none⟩ (.int .i64 p.v)) ⟨b9,4,none⟩ (.int .i64 p.m)).drew=wA at HBA HKA ⊢
     obtain⟨p0,p1,p2,p3,p4⟩:=cell5 (HKA.out.blk HM.out.p (by have:=HSEP.out;simp;omega))
     refine hK.out _ _ (by exact⟨trivial,p0,p1,p2,p3,p4⟩) (fun hHeld=> ?_)
     clear hK K
     try simp only[Act.put,pA,pB,pC]
     refine tK 4 10 rfl ?_
     try simp only[Act.put,pA,pB,pC]
     refine wpAnyH_done (by kernel_rfl) ?_ _
     refine NoPanic.normal ?_
     go_wp2
     obtain⟨v0,v1,v2,v3,v4⟩:=cell5 HBA.out
     have HK9:=hide (HK.out.trans HKA.out (fun i hi=>by simp at hi;subst hi;have:=HSEP.out;exact .inr (by omega)))
     refine bodyPost_ret (v:= .tuple #[.slice none 0 0,.agg #[.int .i64 p.s,.int .i64 p.o,.int .i64 p.l,.int .i64 p.v,.int .i64 p.m],.int .i64 e1]) ?_ rfl ⟨RScanOut.nil HE0.out.1 HE0.out.2.1 HE0.out.2.2,HK9.out⟩
     simp [results,Tryz.results23,go_sem,v0,v1,v2,v3,v4]
   ·have tz:(p.o==0)=false:=beq_eq_false_iff_ne.2 h0
    have HO1:=hide (show 1≤p.o by have:=HO.out;omega)
    have HAF:Seal (After D a l L E err [] p 0 false):=sealed (by
     have h1:=after_begun HSC2.out
     have h2:begun D a l p false=(p,0,false):=by
      unfold begun start
      rw[if_pos h0]
     rw[h2]at h1
     exact h1)
    clear h0
    obtain⟨bz,hbz⟩:∃ bz,w3.heap.size=bz:=⟨_,rfl⟩
    have HBZ:=hide (show w.heap.size≤bz∧b9<bz∧bz≤w3.heap.size from⟨by rw[←hbz];exact HK.out.size,by rw[←hbz];exact HM.out.r.lt,by omega⟩)
    clear hbz c0 c1 c2
    go_wp2
    go_loopw [11,16,17,18,19] (fun v _ _ _ _ wr=>∃ (pre:List (Ps×Rc)) (pk:Ps) (A0:Option Addr) (cc:Nat) (xs:List Value),v= .slice A0 pre.length cc∧Hid (pk.s=p.s)∧Hid ((pre.length:Int)+1≤pk.o)∧Seal (After D a l L E err pre pk 0 false)∧Hid (wr.ownsRow bz 153 10 (.slice A0 pre.length cc) pre.length xs)∧Hid (FndX wr (b9::b6::(Q++(Value.slice A0 pre.length cc).ownBlock.toList)) pre xs)∧Hid (RD wr G rd D)∧Hid (SM wr b5 b6 b9 b s l pk)∧Hid (Kept [] w wr)∧Hid (bz≤wr.heap.size)) (fun _ _ _ _ _ wr=>match wr.cell? ⟨b6,1,none⟩with|some (.int _ o)=>(l-o).toNat|_=>0)
    case atStart=>exact⟨[],p,none,0,[],rfl,hide rfl,hide (by have:=HO1.out;first|(simp;omega)|(simp;done)),HAF,hide (World.ownsRow_nil _ _ _ _),hide rfl,HD,HM,HK,hide HBZ.out.2.2⟩
    case round=>
     clear HM HK HD
     obtain⟨pre,pk,A0,cc,xs,rfl,HPK,HPO,HAF,HOW,HFX,HD,HM,HK,HZ⟩:=hrel
     obtain⟨c0,c1,c2⟩:wr.cell? ⟨b5,0,none⟩=some (.int .i64 b)∧wr.cell? ⟨b5,1,none⟩=some (.int .i64 s)∧wr.cell? ⟨b5,2,none⟩=some (.int .i64 l):=⟨HM.out.c.cell 0,HM.out.c.cell 1,HM.out.c.cell 2⟩
     obtain⟨p0,p1,p2,p3,p4⟩:=cell5 HM.out.p
     have HMU:=hide (show(match wr.cell? ⟨b6,1,none⟩with|some (.int _ o)=>(l-o).toNat|_=>0)=(l-pk.o).toNat by rw[p1])
     have HFO:=hide (rfollow_any (b9::b6::(Q++(Value.slice A0 pre.length cc).ownBlock.toList)) G rd D b s l r q pk wr HD.out HAC.out HF.out (by rw[HPK.out];exact HS.out) (fun y hy=>by
      simp only[List.mem_cons,List.mem_append]at hy
      rcases hy with rfl|rfl|hy|hy
      ·exact HM.out.r.lt
      ·exact HM.out.p.lt
      ·exact Nat.lt_of_lt_of_le (HQ.out y hy) HK.out.size
      ·exact(own_blk HOW.out y hy).2.1))
     rw[show geom.segAt s l r q pk.s=a by rw[HPK.out];exact HAA.out]at HFO
     have HOLT:=hide (show ∀ y∈(Value.slice A0 pre.length cc).ownBlock.toList,b9<y∧y<wr.heap.size from fun y hy=>⟨by have h1:=(own_blk HOW.out y hy).1;have h2:=HBZ.out;omega,(own_blk HOW.out y hy).2.1⟩)
     go_wp2_with fail
     refine HFO.out.mono ?_
     rintro e w8 ⟨hfo,hk8⟩
     have HM8:=hide (HM.out.kept hk8)
     have HK8:=hide (HK.out.trans hk8 (by simp))
     have HD8:=hide (HD.out.kept hk8 (by simp))
     have HOW8:=hide (own_keep HOW.out hk8 (by simp))
     have HFX8:=hide (HFX.out.kept hk8 (by simp))
     have HZ8:=hide (Nat.le_trans HZ.out hk8.size)
     have HOLT8:=hide (show ∀ y∈(Value.slice A0 pre.length cc).ownBlock.toList,b9<y∧y<w8.heap.size from fun y hy=>⟨(HOLT.out y hy).1,Nat.lt_of_lt_of_le (HOLT.out y hy).2 hk8.size⟩)
     clear c0 c1 c2 p0 p1 p2 p3 p4 HFO HM HK HD HOW HFX HZ HOLT hk8
     rcases hfo.symm with⟨e2,hfol,rfl⟩|⟨R,sm,Li,n,lc,P,k,pc,hfol,rfl,hrc⟩
     ·have HEQ:=hide (after_none HAF.out hfol)
      clear hfol
      have kN:Kept [] w8 ((w8.alloc (.cells #[.int .i64 0,.int .i64 0,.int .i64 0,.slice none 0 0,.slice none 0 0] 111)).alloc (.cells #[.int .i64 pk.s,.int .i64 pk.o,.int .i64 pk.l,.int .i64 pk.v,.int .i64 pk.m] 24)):=((Kept.refl [] w8).alloc _).alloc _
      have HM:=hide (HM8.out.kept kN)
      have HK:=hide (HK8.out.trans kN (by simp))
      have HOWN:=hide (own_keep HOW8.out kN (by simp))
      have HFN:=hide (HFX8.out.kept kN (by simp))
      clear kN
      obtain⟨p0,p1,p2,p3,p4⟩:=cell5 HM.out.p
      obtain⟨r0,r1,r2,r3,r4⟩:=cell5 HM.out.r
      have fr:=HM.out.r.frozen
      have fr0:=fr 0
      have fr1:=fr 1
      have fr2:=fr 2
      have fr3:=fr 3
      have fr4:=fr 4
      have HBA:=hide ((put5 (.int .i64 pk.s) (.int .i64 pk.o) (.int .i64 pk.l) (.int .i64 pk.v) (.int .i64 pk.m) HM.out.r).drew)
      have HKA:=hide ((put5_kept (g:=b9) (S:=[b9]) (.int .i64 pk.s) (.int .i64 pk.o) (.int .i64 pk.l) (.int .i64 pk.v) (.int .i64 pk.m) (Kept.refl [b9] ((w8.alloc (.cells #[.int .i64 0,.int .i64 0,.int .i64 0,.slice none 0 0,.slice none 0 0] 111)).alloc (.cells #[.int .i64 pk.s,.int .i64 pk.o,.int .i64 pk.l,.int .i64 pk.v,.int .i64 pk.m] 24))) (.inl (by simp))).drew)
      clear fr
      go_wp2
      refine wp_region_noPanic ?_
      refine wp_region_held_drew (S:=fun W=>True∧W.cell? ⟨b6,0,none⟩=some (.int .i64 pk.s)∧W.cell? ⟨b6,1,none⟩=some (.int .i64 pk.o)∧W.cell? ⟨b6,2,none⟩=some (.int .i64 pk.l)∧W.cell? ⟨b6,3,none⟩=some (.int .i64 pk.v)∧W.cell? ⟨b6,4,none⟩=some (.int .i64 pk.m)) (by kernel_rfl) (by exact⟨trivial,p0,p1,p2,p3,p4⟩) (fun hHeld=> ?_)
      refine tK 0 86 rfl ?_
      try simp only[Act.put,pA,pB,pC]
      refine tK 1 87 rfl ?_
      try simp only[Act.put,pA,pB,pC]
      refine tK 2 88 rfl ?_
      try simp only[Act.put,pA,pB,pC]
      refine tK 3 8 rfl ?_
      try simp only[Act.put,pA,pB,pC]
      refine hO 4 none rfl fun K hK=> ?_
      go_simp
      generalize (World.setCell (World.setCell (World.setCell (World.setCell (World.setCell ((w8.alloc (.cells #[.int .i64 0,.int .i64 0,.int .i64 0,.slice none 0 0,.slice none 0 0] 111)).alloc (.cells #[.int .i64 pk.s,.int .i64 pk.o,.int .i64 pk.l,.int .i64 pk.v,.int .i64 pk.m] 24)) ⟨b9,0,none⟩ (.int .i64 pk.s)) ⟨b9,1,none⟩ (.int .i64 pk.o)) ⟨b9,2,none⟩ (.int .i64 pk.l)) ⟨b9,3,none⟩ (.int .i64 pk.v)) ⟨b9,4,none⟩ (.int .i64 pk.m)).drew=wA at HBA HKA ⊢
      obtain⟨p0,p1,p2,p3,p4⟩:=cell5 (HKA.out.blk HM.out.p (by have:=HSEP.out;simp;omega))
      refine hK.out _ _ (by exact⟨trivial,p0,p1,p2,p3,p4⟩) (fun hHeld=> ?_)
      clear hK K
      try simp only[Act.put,pA,pB,pC]
      refine tK 5 10 rfl ?_
      try simp only[Act.put,pA,pB,pC]
      refine wpAnyH_done (by kernel_rfl) ?_ _
      refine NoPanic.normal ?_
      go_wp2
      obtain⟨v0,v1,v2,v3,v4⟩:=cell5 HBA.out
      have HK9:=hide (HK.out.trans HKA.out (fun i hi=>by simp at hi;subst hi;have:=HSEP.out;exact .inr (by omega)))
      refine bodyPost_ret (v:= .tuple #[.slice A0 pre.length cc,.agg #[.int .i64 pk.s,.int .i64 pk.o,.int .i64 pk.l,.int .i64 pk.v,.int .i64 pk.m],.int .i64 e2]) ?_ rfl ⟨RScanOut.of (own_keep HOWN.out HKA.out (fun i hi hm=>by simp at hi;subst hi;have:=(HOLT8.out _ hm).1;omega)) (fun y hy=>Nat.lt_of_lt_of_le (HQ.out y hy) HBZ.out.1) (HFN.out.kept HKA.out (fun i hi=>by simp at hi;simp [hi])) (fun y hy=>by simp [hy]) rfl HEQ.out.1 HEQ.out.2.1 HEQ.out.2.2,HK9.out⟩
      simp [results,Tryz.results23,go_sem,v0,v1,v2,v3,v4]
     ·obtain⟨HROK,_,_,_,hlen⟩:=follow_ok HOK.out hfol
      have hin:=follow_in hfol
      have HRA:=sealed (after_some HAF.out hfol).1
      obtain⟨y,hy⟩:∃ y,behind pk R sm=y:=⟨_,rfl⟩
      have HYO:=hide (show pk.o+1≤y.o by rw[←hy];show pk.o+1≤pk.o+lenOf R;unfold lenOf;omega)
      have HYS:=hide (show y.s=pk.s by rw[←hy];rfl)
      rw[hy]at HRA ⊢
      have HRC:=hide hrc
      have HRO:=hide HROK
      have HPL:=hide (show pre.length≤64 by have:=HPO.out;omega)
      have hpl:pre.length≤64:=HPL.out
      have HIN:=hide hin
      clear hy hfol hrc HROK hlen hin
      unfold Ps.val
      have b16:Blk ((w8.alloc (.cells #[.int .i64 R.m,.int .i64 R.l,.int .i64 R.p,.slice Li n lc,.slice P k pc] 111)).alloc (.cells #[.int .i64 y.s,.int .i64 y.o,.int .i64 y.l,.int .i64 y.v,.int .i64 y.m] 24)) w8.heap.size 111 #[.int .i64 R.m,.int .i64 R.l,.int .i64 R.p,.slice Li n lc,.slice P k pc]:=(Blk.new w8 _ _).alloc _
      have b17:Blk ((w8.alloc (.cells #[.int .i64 R.m,.int .i64 R.l,.int .i64 R.p,.slice Li n lc,.slice P k pc] 111)).alloc (.cells #[.int .i64 y.s,.int .i64 y.o,.int .i64 y.l,.int .i64 y.v,.int .i64 y.m] 24)) (w8.heap.size+1) 24 #[.int .i64 y.s,.int .i64 y.o,.int .i64 y.l,.int .i64 y.v,.int .i64 y.m]:=by
       have:=Blk.new (w8.alloc (.cells #[.int .i64 R.m,.int .i64 R.l,.int .i64 R.p,.slice Li n lc,.slice P k pc] 111)) 24 #[.int .i64 y.s,.int .i64 y.o,.int .i64 y.l,.int .i64 y.v,.int .i64 y.m]
       simpa using this
      have kY:Kept [] w8 ((w8.alloc (.cells #[.int .i64 R.m,.int .i64 R.l,.int .i64 R.p,.slice Li n lc,.slice P k pc] 111)).alloc (.cells #[.int .i64 y.s,.int .i64 y.o,.int .i64 y.l,.int .i64 y.v,.int .i64 y.m] 24)):=((Kept.refl [] w8).alloc _).alloc _
      have hszY:((w8.alloc (.cells #[.int .i64 R.m,.int .i64 R.l,.int .i64 R.p,.slice Li n lc,.slice P k pc] 111)).alloc (.cells #[.int .i64 y.s,.int .i64 y.o,.int .i64 y.l,.int .i64 y.v,.int .i64 y.m] 24)).heap.size=w8.heap.size+2:=by simp
      have HSZY:=hide hszY
      have HMY:=hide (HM8.out.kept kY)
      have HKY:=hide (HK8.out.trans kY (by simp))
      have HDY:=hide (HD8.out.kept kY (by simp))
      have HB16:=hide b16
      have HB17:=hide b17
      have HOWY:=hide (fun o:Obj=>own_keep HOW8.out (kY.alloc o) (by simp))
      have HF0:=hide (HFX8.out.kept kY (by simp))
      have HR0:=hide (HRC.out.kept kY (by simp))
      have HNW:=hide (show Vals (((w8.alloc (.cells #[.int .i64 R.m,.int .i64 R.l,.int .i64 R.p,.slice Li n lc,.slice P k pc] 111)).alloc (.cells #[.int .i64 y.s,.int .i64 y.o,.int .i64 y.l,.int .i64 y.v,.int .i64 y.m] 24)).alloc (.cells #[.int .i64 pk.s,.int .i64 pk.o,.int .i64 pk.l,.int .i64 pk.v,.int .i64 pk.m,.int .i64 R.m,.int .i64 R.l,.int .i64 R.p,.slice Li n lc,.slice P k pc] 153)) [] (some ⟨w8.heap.size+1+1,0,none⟩) [.int .i64 pk.s,.int .i64 pk.o,.int .i64 pk.l,.int .i64 pk.v,.int .i64 pk.m,.int .i64 R.m,.int .i64 R.l,.int .i64 R.p,.slice Li n lc,.slice P k pc]from by
       have:=Vals.lit ((w8.alloc (.cells #[.int .i64 R.m,.int .i64 R.l,.int .i64 R.p,.slice Li n lc,.slice P k pc] 111)).alloc (.cells #[.int .i64 y.s,.int .i64 y.o,.int .i64 y.l,.int .i64 y.v,.int .i64 y.m] 24)) [] 153 #[.int .i64 pk.s,.int .i64 pk.o,.int .i64 pk.l,.int .i64 pk.v,.int .i64 pk.m,.int .i64 R.m,.int .i64 R.l,.int .i64 R.p,.slice Li n lc,.slice P k pc] (0,0) [.int .i64 pk.s,.int .i64 pk.o,.int .i64 pk.l,.int .i64 pk.v,.int .i64 pk.m,.int .i64 R.m,.int .i64 R.l,.int .i64 R.p,.slice Li n lc,.slice P k pc] rfl (by simp)
       simpa using this)
      obtain⟨r0,r1,r2,r3,r4⟩:=cell5 b16
      obtain⟨p0,p1,p2,p3,p4⟩:=cell5 HMY.out.p
      clear b16 b17 kY hszY HM8 HK8 HD8 HOW8 HFX8 HRC
      go_wp2_with (at_builtin;refine wpList_append_vals rfl (.tmp 89) (.tmp 93) 53 rfl bz 153 (.agg #[.int .i64 0,.int .i64 0,.int .i64 0,.int .i64 0,.int .i64 0,.int .i64 0,.int .i64 0,.int .i64 0,.slice none 0 0,.slice none 0 0]) 10 112 Tryz.underlying53 foundX_info rfl (by omega) (.slice A0 pre.length cc) pre.length xs rfl (HOWY.out _) [] (some ⟨w8.heap.size+1+1,0,none⟩) 1 1 [.int .i64 pk.s,.int .i64 pk.o,.int .i64 pk.l,.int .i64 pk.v,.int .i64 pk.m,.int .i64 R.m,.int .i64 R.l,.int .i64 R.p,.slice Li n lc,.slice P k pc] rfl rfl HNW.out (by simp [Value.oneCell']) (by simp only[maxLen];omega) (by omega) (by have h1:=HZ8.out;have h2:=HSZY.out;simp<;>omega) ?_;intro v9 w9 hown9 hk9 hat9;obtain⟨A9,c9,rfl,_,_⟩:=own_read hown9;have HOWN9:=hide hown9;have hf9:∀ i∈(Value.slice A0 pre.length cc).ownBlock.toList,b9<i:=fun i hi=>(HOLT8.out i hi).1;have hf8:∀ i∈(Value.slice A0 pre.length cc).ownBlock.toList,i<w8.heap.size:=fun i hi=>(HOLT8.out i hi).2;have hsp:=HSEP.out;have hb6:=hk9.blk (HMY.out.p.alloc _) (fun hm=>by have:=hf9 _ hm;omega);have hb5:=hk9.blk (HMY.out.c.alloc _) (fun hm=>by have:=hf9 _ hm;omega);have hb9:=hk9.blk (HMY.out.r.alloc _) (fun hm=>by have:=hf9 _ hm;omega);have h17:=hk9.blk (HB17.out.alloc _) (fun hm=>by have:=hf8 _ hm;omega);have h16:=hk9.blk (HB16.out.alloc _) (fun hm=>by have:=hf8 _ hm;omega);have h6lt:b6<w8.heap.size:=(by have:=HZ8.out;have:=HBZ.out;omega);clear p0 p1 p2 p3 p4 r0 r1 r2 r3 r4;obtain⟨p0,p1,p2,p3,p4⟩:=cell5 hb6;obtain⟨y0,y1,y2,y3,y4⟩:=cell5 h17;have fr:=hb6.frozen;have fr0:=fr 0;have fr1:=fr 1;have fr2:=fr 2;have fr3:=fr 3;have fr4:=fr 4;have HB6N:=hide (put5 (.int .i64 y.s) (.int .i64 y.o) (.int .i64 y.l) (.int .i64 y.v) (.int .i64 y.m) hb6);have HK6N:=hide (put5_kept (g:=b6) (S:=[b6]) (.int .i64 y.s) (.int .i64 y.o) (.int .i64 y.l) (.int .i64 y.v) (.int .i64 y.m) (Kept.refl [b6] w9) (.inl (by simp)));obtain⟨r0,r1,r2,r3,r4⟩:=cell5 (HK6N.out.blk h16 (by simp<;>omega));have HKX:=hide (show Kept (Value.slice A0 pre.length cc).ownBlock.toList ((w8.alloc (.cells #[.int .i64 R.m,.int .i64 R.l,.int .i64 R.p,.slice Li n lc,.slice P k pc] 111)).alloc (.cells #[.int .i64 y.s,.int .i64 y.o,.int .i64 y.l,.int .i64 y.v,.int .i64 y.m] 24)) w9 from((Kept.refl ((Value.slice A0 pre.length cc).ownBlock.toList) ((w8.alloc (.cells #[.int .i64 R.m,.int .i64 R.l,.int .i64 R.p,.slice Li n lc,.slice P k pc] 111)).alloc (.cells #[.int .i64 y.s,.int .i64 y.o,.int .i64 y.l,.int .i64 y.v,.int .i64 y.m] 24))).alloc _).trans hk9 (fun i hi=> .inl hi));have HAT:=hide hat9;have HC5:=hide hb5;have HC9:=hide hb9;clear hown9 hf9 hf8 hsp hb6 hb5 hb9 h17 h16 h6lt fr hk9 hat9)
      clear r0 r1 r2 r3 r4 p0 p1 p2 p3 p4 y0 y1 y2 y3 y4 fr0 fr1 fr2 fr3 fr4
      generalize World.setCell (World.setCell (World.setCell (World.setCell (World.setCell w9 ⟨b6,0,none⟩ (.int .i64 y.s)) ⟨b6,1,none⟩ (.int .i64 y.o)) ⟨b6,2,none⟩ (.int .i64 y.l)) ⟨b6,3,none⟩ (.int .i64 y.v)) ⟨b6,4,none⟩ (.int .i64 y.m)=w12 at HB6N HK6N ⊢
      obtain⟨pre2,hp2⟩:∃ pre2,pre++[(pk,R)]=pre2:=⟨_,rfl⟩
      have hl2:pre2.length=pre.length+1:=by rw[←hp2];simp
      have HO9:=hide (show ∀ i∈(Value.slice A9 (pre.length+1) c9).ownBlock.toList,b9<i from fun i hi=>by have h1:=(own_blk HOWN9.out i hi).1;have h2:=HBZ.out;omega)
      have hsub:∀ i∈(Value.slice A9 (pre.length+1) c9).ownBlock.toList,i∈(Value.slice A0 pre.length cc).ownBlock.toList∨((w8.alloc (.cells #[.int .i64 R.m,.int .i64 R.l,.int .i64 R.p,.slice Li n lc,.slice P k pc] 111)).alloc (.cells #[.int .i64 y.s,.int .i64 y.o,.int .i64 y.l,.int .i64 y.v,.int .i64 y.m] 24)).heap.size≤i:=fun i hi=>HAT.out.elim (fun h=> .inl (by rw[←h];exact hi)) (fun h=> .inr (by rw[h]at hi;simp at hi;simp;omega))
      have hF1:=FndX.snoc (c:=lc) (d:=pc) pk R HR0.out HF0.out
      rw[hp2]at hF1 HRA
      have hF2:=(((hF1.away (S':=(b9::b6::(Q++(Value.slice A0 pre.length cc).ownBlock.toList))++(Value.slice A9 (pre.length+1) c9).ownBlock.toList) (fun i hi=>(List.mem_append.1 hi).elim .inl (fun h=>(hsub i h).imp (fun h=>by simp only[List.mem_cons,List.mem_append];exact .inr (.inr (.inr h))) id))).kept HKX.out (fun i hi=>by simp only[List.mem_cons,List.mem_append];exact .inl (.inr (.inr (.inr hi))))).kept HK6N.out (fun i hi=>by simp at hi;subst hi;simp)).away (S':=b9::b6::(Q++(Value.slice A9 (pre.length+1) c9).ownBlock.toList)) (fun i hi=> .inl (by
       simp only[List.mem_cons,List.mem_append]at hi ⊢
       rcases hi with hi|hi|hi|hi
       ·exact .inl (.inl hi)
       ·exact .inl (.inr (.inl hi))
       ·exact .inl (.inr (.inr (.inl hi)))
       ·exact .inr hi))
      have hR12:=((HR0.out.kept HKX.out (fun i hi=>by simp only[List.mem_cons,List.mem_append];exact .inr (.inr (.inr hi)))).kept HK6N.out (fun i hi=>by simp at hi;subst hi;simp)).away (S':=[]) (by simp)
      have hsp:=HSEP.out
      have HM12:=hide (SM.mk (p:=y) (HK6N.out.blk HC5.out (by simp;omega)) HB6N.out (HK6N.out.blk HC9.out (by simp;omega)))
      have HK12:=hide ((HKY.out.trans HKX.out (fun i hi=> .inr (by have:=(HOLT8.out i hi).1;omega))).trans HK6N.out (fun i hi=> .inr (by simp at hi;omega)))
      have HD12:=hide ((HDY.out.kept HKX.out (fun x hx hm=>by have h1:=(HOLT8.out x hm).1;have h2:=HGL.out x hx;omega)).kept HK6N.out (fun x hx hm=>by have h2:=HGL.out x hx;simp at hm;omega))
      have HOW12:=hide (own_keep HOWN9.out HK6N.out (fun i hi hm=>by simp at hi;have:=HO9.out i hm;omega))
      have HSZ12:=hide (show bz≤w12.heap.size by have h1:=HZ8.out;have h2:=HKX.out.size;have h3:=HK6N.out.size;have h4:=HSZY.out;omega)
      have HF12:=hide hF2
      have hits:R.its.length=n:=hR12.hn
      have hnm:=nextVal_may R.its HRO.out.2.2.2.2.1
      have h6:=HRO.out.2.2.2.1.2
      have HP2:=hide hp2
      clear hsub hF1 hF2 hsp HAT HKX HK6N HB6N HC5 HC9 HOWN9 HKY HDY HR0 HF0 HMY HB16 HB17 HNW HOWY hp2
      refine(rnextOf_any R Li P n lc k pc w12 hR12.its hits (by omega)).mono ?_
      rintro e w13 ⟨rfl,hk13⟩
      have HM:=hide (HM12.out.kept hk13)
      have HK:=hide (HK12.out.trans hk13 (by simp))
      have HD:=hide (HD12.out.kept hk13 (by simp))
      have HOWE:=hide (own_keep HOW12.out hk13 (by simp))
      have HFE:=hide (HF12.out.kept hk13 (by simp))
      have HSZ:=hide (Nat.le_trans HSZ12.out hk13.size)
      obtain⟨nv,hnv⟩:∃ nv,nextVal R.its=nv:=⟨_,rfl⟩
      obtain⟨nx,hnx⟩:∃ nx,hasNext R=nx:=⟨_,rfl⟩
      rw[hnv,show(R.its.any fun i=>decide (i.k=7))=nx from hnx]at hnm
      rw[hnv]
      rw[hnx]at HRA
      have hnm':decide (nv≥0)=nx:=hnm
      clear hnv hnx hnm hits h6 hR12 hk13 HM12 HK12 HD12 HOW12 HF12 HSZ12
      cases nx with
      | true=>
       have HEQ:=hide (show L=pre2∧E=y∧err=0 from by
        have h:=HRA.out
        generalize hz:(0:Int)=z0 at h
        generalize hb:true=bb at h
        cases h with
        | on=>cases hb
        | over h1 h2=>exact⟨h1,h2,by first|rfl|exact hz.symm⟩)
       have HL2:=hide hl2
       obtain⟨p0,p1,p2,p3,p4⟩:=cell5 HM.out.p
       obtain⟨r0,r1,r2,r3,r4⟩:=cell5 HM.out.r
       have fr:=HM.out.r.frozen
       have fr0:=fr 0
       have fr1:=fr 1
       have fr2:=fr 2
       have fr3:=fr 3
       have fr4:=fr 4
       have HBA:=hide ((put5 (.int .i64 y.s) (.int .i64 y.o) (.int .i64 y.l) (.int .i64 y.v) (.int .i64 y.m) HM.out.r).drew)
       have HKA:=hide ((put5_kept (g:=b9) (S:=[b9]) (.int .i64 y.s) (.int .i64 y.o) (.int .i64 y.l) (.int .i64 y.v) (.int .i64 y.m) (Kept.refl [b9] w13) (.inl (by simp))).drew)
       clear fr
       go_wp2
       refine wp_region_noPanic ?_
       refine wp_region_held_drew (S:=fun W=>True∧W.cell? ⟨b6,0,none⟩=some (.int .i64 y.s)∧W.cell? ⟨b6,1,none⟩=some (.int .i64 y.o)∧W.cell? ⟨b6,2,none⟩=some (.int .i64 y.l)∧W.cell? ⟨b6,3,none⟩=some (.int .i64 y.v)∧W.cell? ⟨b6,4,none⟩=some (.int .i64 y.m)) (by kernel_rfl) (by exact⟨trivial,p0,p1,p2,p3,p4⟩) (fun hHeld=> ?_)
       refine tK 0 99 rfl ?_
       try simp only[Act.put,pA,pB,pC]
       refine tK 1 100 rfl ?_
       try simp only[Act.put,pA,pB,pC]
       refine tK 2 8 rfl ?_
       try simp only[Act.put,pA,pB,pC]
       refine hO 3 none rfl fun K hK=> ?_
       go_simp
       generalize (World.setCell (World.setCell (World.setCell (World.setCell (World.setCell w13 ⟨b9,0,none⟩ (.int .i64 y.s)) ⟨b9,1,none⟩ (.int .i64 y.o)) ⟨b9,2,none⟩ (.int .i64 y.l)) ⟨b9,3,none⟩ (.int .i64 y.v)) ⟨b9,4,none⟩ (.int .i64 y.m)).drew=wA at HBA HKA ⊢
       obtain⟨p0,p1,p2,p3,p4⟩:=cell5 (HKA.out.blk HM.out.p (by have:=HSEP.out;simp;omega))
       refine hK.out _ _ (by exact⟨trivial,p0,p1,p2,p3,p4⟩) (fun hHeld=> ?_)
       clear hK K
       try simp only[Act.put,pA,pB,pC]
       refine tK 4 10 rfl ?_
       try simp only[Act.put,pA,pB,pC]
       refine wpAnyH_done (by kernel_rfl) ?_ _
       refine NoPanic.normal ?_
       go_wp2
       obtain⟨v0,v1,v2,v3,v4⟩:=cell5 HBA.out
       have HK9:=hide (HK.out.trans HKA.out (fun i hi=>by simp at hi;subst hi;have:=HSEP.out;exact .inr (by omega)))
       refine bodyPost_ret (v:= .tuple #[.slice A9 (pre.length+1) c9,.agg #[.int .i64 y.s,.int .i64 y.o,.int .i64 y.l,.int .i64 y.v,.int .i64 y.m],.int .i64 0]) ?_ rfl ⟨RScanOut.of (own_keep HOWE.out HKA.out (fun i hi hm=>by simp at hi;subst hi;have:=HO9.out _ hm;omega)) (fun y hy=>Nat.lt_of_lt_of_le (HQ.out y hy) HBZ.out.1) (HFE.out.kept HKA.out (fun i hi=>by simp at hi;simp [hi])) (fun y hy=>by simp [hy]) HL2.out HEQ.out.1 HEQ.out.2.1 HEQ.out.2.2,HK9.out⟩
       simp [results,Tryz.results23,go_sem,v0,v1,v2,v3,v4]
      | false=>
       have hyo:=(cell5 HM.out.p).2.1
       go_wp2
       go_roundw
       case rel=>exact⟨pre2,y,A9,c9,xs++[.int .i64 pk.s,.int .i64 pk.o,.int .i64 pk.l,.int .i64 pk.v,.int .i64 pk.m,.int .i64 R.m,.int .i64 R.l,.int .i64 R.p,.slice Li n lc,.slice P k pc],by rw[hl2],hide (HYS.out.trans HPK.out),hide (by have h1:=HPO.out;have h2:=HYO.out;rw[hl2];push_cast;omega),HRA,hide (by rw[hl2];exact HOWE.out),hide (by rw[hl2];exact HFE.out),HD,HM,HK,HSZ⟩
       case measure=>
        have h1:=HYO.out
        have h2:=HIN.out
        rw[HMU.out,hyo]
        show(l-y.o).toNat<(l-pk.o).toNat
        omega
  ·have HE0:=hide (show L=[]∧E=p∧err=0 by
    have h1:=HSC.out
    unfold ofSeg at h1
    rw[if_pos hs,scan_away ho]at h1
    injection h1 with h2 h3
    injection h3 with h4 h5
    exact⟨h2.symm,h4.symm,h5.symm⟩)
   have HS:=hide hs
   have HO:=hide ho
   clear hs ho
   go_wp2_with fail
   refine(within_yes p.s 0 (s-1) _ HS.out).mono ?_
   rintro e w6 ⟨rfl,rfl⟩
   go_wp2_with fail
   refine(within_no p.o 0 (l-1) _ HO.out).mono ?_
   rintro e w6 ⟨rfl,rfl⟩
   clear c0 c1 c2 p0 p1 p2 p3 p4
   obtain⟨p0,p1,p2,p3,p4⟩:=cell5 HM.out.p
   obtain⟨r0,r1,r2,r3,r4⟩:=cell5 HM.out.r
   have fr:=HM.out.r.frozen
   have fr0:=fr 0
   have fr1:=fr 1
   have fr2:=fr 2
   have fr3:=fr 3
   have fr4:=fr 4
   have HBA:=hide ((put5 (.int .i64 p.s) (.int .i64 p.o) (.int .i64 p.l) (.int .i64 p.v) (.int .i64 p.m) HM.out.r).drew)
   have HKA:=hide ((put5_kept (g:=b9) (S:=[b9]) (.int .i64 p.s) (.int .i64 p.o) (.int .i64 p.l) (.int .i64 p.v) (.int .i64 p.m) (Kept.refl [b9] w3) (.inl (by simp))).drew)
   clear fr
   go_wp2
   refine wp_region_noPanic ?_
   refine wp_region_held_drew (S:=fun W=>True∧W.cell? ⟨b6,0,none⟩=some (.int .i64 p.s)∧W.cell? ⟨b6,1,none⟩=some (.int .i64 p.o)∧W.cell? ⟨b6,2,none⟩=some (.int .i64 p.l)∧W.cell? ⟨b6,3,none⟩=some (.int .i64 p.v)∧W.cell? ⟨b6,4,none⟩=some (.int .i64 p.m)) (by kernel_rfl) (by exact⟨trivial,p0,p1,p2,p3,p4⟩) (fun hHeld=> ?_)
   refine tK 0 36 rfl ?_
   try simp only[Act.put,pA,pB,pC]
   refine tK 1 8 rfl ?_
   try simp only[Act.put,pA,pB,pC]
   refine hO 2 none rfl fun K hK=> ?_
   go_simp
   generalize (World.setCell (World.setCell (World.setCell (World.setCell (World.setCell w3 ⟨b9,0,none⟩ (.int .i64 p.s)) ⟨b9,1,none⟩ (.int .i64 p.o)) ⟨b9,2,none⟩ (.int .i64 p.l)) ⟨b9,3,none⟩ (.int .i64 p.v)) ⟨b9,4,none⟩ (.int .i64 p.m)).drew=wA at HBA HKA ⊢
   obtain⟨p0,p1,p2,p3,p4⟩:=cell5 (HKA.out.blk HM.out.p (by have:=HSEP.out;simp;omega))
   refine hK.out _ _ (by exact⟨trivial,p0,p1,p2,p3,p4⟩) (fun hHeld=> ?_)
   clear hK K
   try simp only[Act.put,pA,pB,pC]
   refine tK 3 10 rfl ?_
   try simp only[Act.put,pA,pB,pC]
   refine wpAnyH_done (by kernel_rfl) ?_ _
   refine NoPanic.normal ?_
   go_wp2
   obtain⟨v0,v1,v2,v3,v4⟩:=cell5 HBA.out
   have HK9:=hide (HK.out.trans HKA.out (fun i hi=>by simp at hi;subst hi;have:=HSEP.out;exact .inr (by omega)))
   refine bodyPost_ret (v:= .tuple #[.slice none 0 0,.agg #[.int .i64 p.s,.int .i64 p.o,.int .i64 p.l,.int .i64 p.v,.int .i64 p.m],.int .i64 0]) ?_ rfl ⟨RScanOut.nil HE0.out.1 HE0.out.2.1 HE0.out.2.2,HK9.out⟩
   simp [results,Tryz.results23,go_sem,v0,v1,v2,v3,v4]
 ·have HE0:=hide (show L=[]∧E=p∧err=0 by
   have h1:=HSC.out
   unfold ofSeg at h1
   rw[if_neg hs,scan_away (by simp;omega)]at h1
   injection h1 with h2 h3
   injection h3 with h4 h5
   exact⟨h2.symm,h4.symm,h5.symm⟩)
  have HS:=hide hs
  clear hs
  go_wp2_with fail
  refine(within_no p.s 0 (s-1) _ HS.out).mono ?_
  rintro e w6 ⟨rfl,rfl⟩
  clear c0 c1 c2 p0 p1 p2 p3 p4
  obtain⟨p0,p1,p2,p3,p4⟩:=cell5 HM.out.p
  obtain⟨r0,r1,r2,r3,r4⟩:=cell5 HM.out.r
  have fr:=HM.out.r.frozen
  have fr0:=fr 0
  have fr1:=fr 1
  have fr2:=fr 2
  have fr3:=fr 3
  have fr4:=fr 4
  have HBA:=hide ((put5 (.int .i64 p.s) (.int .i64 p.o) (.int .i64 p.l) (.int .i64 p.v) (.int .i64 p.m) HM.out.r).drew)
  have HKA:=hide ((put5_kept (g:=b9) (S:=[b9]) (.int .i64 p.s) (.int .i64 p.o) (.int .i64 p.l) (.int .i64 p.v) (.int .i64 p.m) (Kept.refl [b9] w3) (.inl (by simp))).drew)
  clear fr
  go_wp2
  refine wp_region_noPanic ?_
  refine wp_region_held_drew (S:=fun W=>True∧W.cell? ⟨b6,0,none⟩=some (.int .i64 p.s)∧W.cell? ⟨b6,1,none⟩=some (.int .i64 p.o)∧W.cell? ⟨b6,2,none⟩=some (.int .i64 p.l)∧W.cell? ⟨b6,3,none⟩=some (.int .i64 p.v)∧W.cell? ⟨b6,4,none⟩=some (.int .i64 p.m)) (by kernel_rfl) (by exact⟨trivial,p0,p1,p2,p3,p4⟩) (fun hHeld=> ?_)
  refine tK 0 36 rfl ?_
  try simp only[Act.put,pA,pB,pC]
  refine tK 1 8 rfl ?_
  try simp only[Act.put,pA,pB,pC]
  refine hO 2 none rfl fun K hK=> ?_
  go_simp
  generalize (World.setCell (World.setCell (World.setCell (World.setCell (World.setCell w3 ⟨b9,0,none⟩ (.int .i64 p.s)) ⟨b9,1,none⟩ (.int .i64 p.o)) ⟨b9,2,none⟩ (.int .i64 p.l)) ⟨b9,3,none⟩ (.int .i64 p.v)) ⟨b9,4,none⟩ (.int .i64 p.m)).drew=wA at HBA HKA ⊢
  obtain⟨p0,p1,p2,p3,p4⟩:=cell5 (HKA.out.blk HM.out.p (by have:=HSEP.out;simp;omega))
  refine hK.out _ _ (by exact⟨trivial,p0,p1,p2,p3,p4⟩) (fun hHeld=> ?_)
  clear hK K
  try simp only[Act.put,pA,pB,pC]
  refine tK 3 10 rfl ?_
  try simp only[Act.put,pA,pB,pC]
  refine wpAnyH_done (by kernel_rfl) ?_ _
  refine NoPanic.normal ?_
  go_wp2
  obtain⟨v0,v1,v2,v3,v4⟩:=cell5 HBA.out
  have HK9:=hide (HK.out.trans HKA.out (fun i hi=>by simp at hi;subst hi;have:=HSEP.out;exact .inr (by omega)))
  refine bodyPost_ret (v:= .tuple #[.slice none 0 0,.agg #[.int .i64 p.s,.int .i64 p.o,.int .i64 p.l,.int .i64 p.v,.int .i64 p.m],.int .i64 0]) ?_ rfl ⟨RScanOut.nil HE0.out.1 HE0.out.2.1 HE0.out.2.2,HK9.out⟩
  simp [results,Tryz.results23,go_sem,v0,v1,v2,v3,v4]
end Go.Proofs.YtjkmahmoclobmaaGreat.sc
