import Derived.Test.YtjkmahmoclobmaaGreatQScanPlaysM
import Derived.Test.YtjkmahmoclobmaaGreatQScanLawCore
import Derived.Test.YtjkmahmoclobmaaGreatQChainMath
import Derived.Deep.CutRange
import Derived.Deep.CutBlock
import Derived.Test.YtjkmahmoclobmaaGreatQChainLaidMath
import Derived.Test.YtjkmahmoclobmaaGreatQRDiskCore
namespace Go.Proofs.YtjkmahmoclobmaaGreat.sc
set_option linter.unusedSimpArgs false
set_option linter.unusedVariables false
open Go.RowKit mem base disk owns
open record (Rc RcIn RcAt put5 put5_kept cell5)
theorem mul_bd {a s l b:Int}(h:0≤a∧a≤s-1)(hc:(1≤b∧b≤24)∧(8≤s∧s≤10)∧24≤l∧l≤27):0≤a*l∧a*l+l≤s*l:=by
 refine⟨Int.mul_nonneg h.1 (by omega),?_⟩
 have:(a+1)*l≤s*l:=Int.mul_le_mul_of_nonneg_right (by omega) (by omega)
 rw[Int.add_mul]at this
 omega
theorem mul_top {s l b:Int}(hc:(1≤b∧b≤24)∧(8≤s∧s≤10)∧24≤l∧l≤27):0≤s*l∧s*l≤270:=by
 refine⟨Int.mul_nonneg (by omega) (by omega),?_⟩
 have h1:s*l≤10*l:=Int.mul_le_mul_of_nonneg_right (by omega) (by omega)
 omega
structure Lp (wr w:World)(F G:List Nat)(d rd g:Nat)(D:Dk)(b s l r q:Int)(bs:List (Nat×TypeId×Array Value)):Prop where
 lw:Lw wr w F G d rd g D b s l r q
 bl:∀ x∈bs,Blk wr x.1 x.2.1 x.2.2
 ap:∀ x∈bs,x.1∉F++G∧w.heap.size≤x.1
def cfgB (g:Nat)(b s l:Int):Nat×TypeId×Array Value:=(g,29,#[.int .i64 b,.int .i64 s,.int .i64 l])
def posB (g:Nat)(p:Ps):Nat×TypeId×Array Value:=(g,24,#[.int .i64 p.s,.int .i64 p.o,.int .i64 p.l,.int .i64 p.v,.int .i64 p.m])
section
variable {wr wr' w:World}{F G:List Nat}{d rd g:Nat}{D D':Dk}{b s l r q:Int}{bs:List (Nat×TypeId×Array Value)}
theorem Lp.keep (h:Lp wr w F G d rd g D b s l r q bs)(k:Kept [] wr wr'):Lp wr' w F G d rd g D b s l r q bs:=
 ⟨h.lw.keep k,fun x hx=>k.blk (h.bl x hx) (by simp),h.ap⟩
theorem Lp.put (h:Lp wr w F G d rd g D b s l r q bs)(t:DdTo wr wr' F d G rd D'):∃ F' G',Lp wr' w F' G' d rd g D' b s l r q bs∧Kept (F++G) wr wr':=by
 obtain⟨F',G',h1,h2,h3⟩:=h.lw.put t
 exact⟨F',G',⟨h1,fun x hx=>h3.blk (h.bl x hx) (h.ap x hx).1,fun x hx=>⟨h2 _ (h.ap x hx).1 (h.bl x hx).lt,(h.ap x hx).2⟩⟩,h3⟩
theorem Lp.add (h:Lp wr w F G d rd g D b s l r q bs)(k:Kept [] wr wr'){y:Nat×TypeId×Array Value}(hb:Blk wr' y.1 y.2.1 y.2.2)(hy:wr.heap.size≤y.1):Lp wr' w F G d rd g D b s l r q (y::bs):=
 ⟨h.lw.keep k,fun x hx=>(List.mem_cons.1 hx).elim (fun e=>e▸hb) (fun hx=>k.blk (h.bl x hx) (by simp)),fun x hx=>(List.mem_cons.1 hx).elim (fun e=>by
  subst e
  exact⟨fun hm=>by have:=h.lw.dd.lt _ hm;omega,Nat.le_trans h.lw.kept.size hy⟩) (fun hx=>h.ap x hx)⟩
theorem Lp.less (h:Lp wr w F G d rd g D b s l r q bs){cs:List (Nat×TypeId×Array Value)}(hc:∀ x∈cs,x∈bs):Lp wr w F G d rd g D b s l r q cs:=
 ⟨h.lw,fun x hx=>h.bl x (hc x hx),fun x hx=>h.ap x (hc x hx)⟩
theorem Lp.cfg (h:Lp wr w F G d rd g D b s l r q bs){y:Nat}{b' s' l':Int}(hy:cfgB y b' s' l'∈bs):wr.cell? ⟨y,0,none⟩=some (.int .i64 b')∧wr.cell? ⟨y,1,none⟩=some (.int .i64 s')∧wr.cell? ⟨y,2,none⟩=some (.int .i64 l'):=
 have hb:=h.bl _ hy
 ⟨hb.cell 0,hb.cell 1,hb.cell 2⟩
theorem Lp.pos (h:Lp wr w F G d rd g D b s l r q bs){y:Nat}{p:Ps}(hy:posB y p∈bs):wr.cell? ⟨y,0,none⟩=some (.int .i64 p.s)∧wr.cell? ⟨y,1,none⟩=some (.int .i64 p.o)∧wr.cell? ⟨y,2,none⟩=some (.int .i64 p.l)∧wr.cell? ⟨y,3,none⟩=some (.int .i64 p.v)∧wr.cell? ⟨y,4,none⟩=some (.int .i64 p.m):=
 cell5 (h.bl _ hy)
end
theorem faulted_ok (D:Dk)(x:Int)(h:D.ok):(D.faulted x true).2.ok∧(D.faulted x true).2.acts=D.acts:=by
 unfold Dk.faulted
 split
 ·exact⟨h.faulted _ _,rfl⟩
 ·exact⟨h,rfl⟩
theorem ofSeg_snd (dv:Option Addr)(s l r q a:Int):(ofSeg dv s l r q a).2=(ofSeg none s l r q a).2:=by
 unfold ofSeg
 split<;>rfl
theorem ofSeg_bd {w:World}{g:Nat}{b s l r q:Int}(h:geom.GAt w g b s l r q)(hl:24≤l∧l≤27)(a:Int):(0≤(ofSeg none s l r q a).2.1∧(ofSeg none s l r q a).2.1≤10000)∧0≤(ofSeg none s l r q a).2.2∧(ofSeg none s l r q a).2.2≤27:=by
 unfold ofSeg
 split
 ·rename_i ha
  have:=seg_bd h ha
  dsimp only
  omega
 ·exact⟨⟨Int.le_refl _,by decide⟩,Int.le_refl _,by decide⟩
theorem dsk_of {w:World}{F G:List Nat}{d rd:Nat}{D:Dk}(h:Dd w F d G rd D)(s l r q a:Int):Dsk w F (ofSeg (some ⟨d,0,none⟩) s l r q a).1 (ofSeg (some ⟨d,0,none⟩) s l r q a).2.2 D:=by
 unfold ofSeg
 split
 ·exact fun _=>⟨d,rfl,h.a⟩
 ·exact fun h=>absurd h (by decide)
def pcs (p:Ps):List Value:=[.int .i64 p.s,.int .i64 p.o,.int .i64 p.l,.int .i64 p.v,.int .i64 p.m]
theorem three_at {W:World}{ad:Addr}{u0 u1 u2:Ps}(h:Vals W [] (some ad) (pcs u0++(pcs u1++pcs u2)))(j:Nat)(hj:j<3):∃ x:Ps,W.cell? (ad.add (j*5))=some (.int .i64 x.s)∧W.cell? ⟨(ad.add (j*5)).block,(ad.add (j*5)).off+1,none⟩=some (.int .i64 x.o)∧W.cell? ⟨(ad.add (j*5)).block,(ad.add (j*5)).off+2,none⟩=some (.int .i64 x.l)∧W.cell? ⟨(ad.add (j*5)).block,(ad.add (j*5)).off+3,none⟩=some (.int .i64 x.v)∧W.cell? ⟨(ad.add (j*5)).block,(ad.add (j*5)).off+4,none⟩=some (.int .i64 x.m):=by
 have key:∀ (i:Nat) (v:Value),(pcs u0++(pcs u1++pcs u2))[i]? = some v→W.cell? (ad.add i)=some v:=fun i v hi=>by
  obtain⟨ad',e,g⟩:=vals_at h hi
  cases e
  exact g
 rcases(show j=0∨j=1∨j=2 by omega)with rfl|rfl|rfl
 ·exact⟨u0,key 0 _ rfl,add_cell (key 1 _ rfl),add_cell (key 2 _ rfl),add_cell (key 3 _ rfl),add_cell (key 4 _ rfl)⟩
 ·exact⟨u1,key 5 _ rfl,add_cell (key 6 _ rfl),add_cell (key 7 _ rfl),add_cell (key 8 _ rfl),add_cell (key 9 _ rfl)⟩
 ·exact⟨u2,key 10 _ rfl,add_cell (key 11 _ rfl),add_cell (key 12 _ rfl),add_cell (key 13 _ rfl),add_cell (key 14 _ rfl)⟩
theorem row64p {w:World}{base n c:Nat}{e:TypeId}{sz:Nat}{A:Option Addr}{xs:List Value}(h:w.ownsRow base e sz (.slice A (n+1) c) (n+1) xs):∃ g,A=some ⟨g,0,none⟩∧base≤g∧Row w g e xs:=by
 rcases h.2 with⟨h1,_⟩|⟨g,cap,cur,h1,hb,_⟩
 ·cases h1
 ·obtain⟨g2,c2,h2,h3,_,h4⟩:=disk.row_of_own h (by cases h1;simp [Value.ownBlock])
  cases h2
  exact⟨g2,rfl,h3,h4⟩
theorem once {A B:Prop}(h:Seal A→B)(a:A):B:=h ⟨a⟩
set_option maxRecDepth 100000 in
set_option maxHeartbeats 8000000 in
theorem plays_any (x y z:Int)(p:Ps)(A:Option Addr)(n c:Nat)(rs:List Kr)(vs:List Value)(hed:Bool)(tu fa:Int)(w:World)(hn:rs.length=n)(hb:n≤9223372036854775807)(hv:Vals w [] A vs)(hk:KrIn w [] rs vs):
  Calls Tryz.prog 3 #[.agg #[.int .i64 x,.int .i64 y,.int .i64 z],.agg #[.int .i64 p.s,.int .i64 p.o,.int .i64 p.l,.int .i64 p.v,.int .i64 p.m],.slice A n c,.bool hed,.int .i64 tu,.int .i64 fa] w fun e w'=>e= .returned (.bool true)∧Kept [] w w':=by
 obtain⟨g6,hg6⟩:∃ g,w.heap.size=g:=⟨_,rfl⟩
 obtain⟨w1,hw1⟩:∃ w1,w.alloc (.cells #[.int .i64 x,.int .i64 y,.int .i64 z] 22)=w1:=⟨_,rfl⟩
 obtain⟨g7,hg7⟩:∃ g,w1.heap.size=g:=⟨_,rfl⟩
 obtain⟨w2,hw2⟩:∃ w2,w1.alloc (.cells #[.int .i64 p.s,.int .i64 p.o,.int .i64 p.l,.int .i64 p.v,.int .i64 p.m] 24)=w2:=⟨_,rfl⟩
 have k1:Kept [] w w1:=by rw[←hw1];exact(Kept.refl [] w).alloc _
 have k2:Kept [] w1 w2:=by rw[←hw2];exact(Kept.refl [] w1).alloc _
 have m1:Blk w1 g6 22 #[.int .i64 x,.int .i64 y,.int .i64 z]:=by rw[←hw1,←hg6];exact Blk.new w _ _
 have m2:Blk w2 g7 24 #[.int .i64 p.s,.int .i64 p.o,.int .i64 p.l,.int .i64 p.v,.int .i64 p.m]:=by rw[←hw2,←hg7];exact Blk.new w1 _ _
 have HK:=hide (k1.trans k2 (by simp))
 have HB6:=hide (k2.blk m1 (by simp))
 have HB7:=hide m2
 have HFW:=hide (few_any rs A n c vs w2 hn hb (hv.kept HK.out (by simp)) (hk.kept HK.out (by simp)))
 have HZ7:=hide (show w.heap.size≤g7 from by have:=k1.size;omega)
 have HKR:=hide (fun (S:List Nat) (hS:∀ i∈S,w.heap.size≤i)=>hk.away (S':=S) (fun i hi=> .inr (hS i hi)))
 have HVR:=hide (fun (S:List Nat) (hS:∀ i∈S,w.heap.size≤i)=>hv.away (S':=S) (fun i hi=> .inr (hS i hi)))
 have HN:=hide hn
 clear k1 k2 m1 m2 hn hv hk
 go_enter Tryz.func3,Tryz.ntmps3
 go_wp2_with fail
 refine HFW.out.mono ?_
 rintro e w' ⟨⟨hfew,rfl⟩|⟨_,rfl⟩,rfl⟩
 ·have HFEW:=hide hfew
  clear hfew HFW
  obtain⟨x0,x1,x2⟩:w2.cell? ⟨g6,0,none⟩=some (.int .i64 x)∧w2.cell? ⟨g6,1,none⟩=some (.int .i64 y)∧w2.cell? ⟨g6,2,none⟩=some (.int .i64 z):=⟨HB6.out.cell 0,HB6.out.cell 1,HB6.out.cell 2⟩
  go_wp2_with fail
  refine(base.config_small x y z _).mono ?_
  rintro e w3 ⟨b,s,l,rfl,hcf,hk3⟩
  have HCF:=hide hcf
  obtain⟨g13,hg13⟩:∃ g,w3.heap.size=g:=⟨_,rfl⟩
  obtain⟨w4,hw4⟩:∃ w4,w3.alloc (.cells #[.int .i64 b,.int .i64 s,.int .i64 l] 29)=w4:=⟨_,rfl⟩
  have k4:Kept [] w3 w4:=by rw[←hw4];exact(Kept.refl [] w3).alloc _
  have m13:Blk w4 g13 29 #[.int .i64 b,.int .i64 s,.int .i64 l]:=by rw[←hw4,←hg13];exact Blk.new w3 _ _
  have HK4:=hide ((HK.out.trans hk3 (by simp)).trans k4 (by simp))
  have HB13:=hide m13
  have HZ13:=hide (show w.heap.size≤g13 from by have h1:=HK.out.size;have h2:=hk3.size;omega)
  have HB74:=hide (k4.blk (hk3.blk HB7.out (by simp)) (by simp))
  obtain⟨c0,c1,c2⟩:w4.cell? ⟨g13,0,none⟩=some (.int .i64 b)∧w4.cell? ⟨g13,1,none⟩=some (.int .i64 s)∧w4.cell? ⟨g13,2,none⟩=some (.int .i64 l):=⟨m13.cell 0,m13.cell 1,m13.cell 2⟩
  clear k4 m13 hk3 HB6 HB7 HK x0 x1 x2 hg6 hw1 hg7 hw2
  go_wp2_with fail
  refine(desk_any b s l w4 (by unfold geom.Ok;omega)).mono ?_
  rintro e w5 ⟨F,d,G,rd,g,nn,r,q,rfl,hdk⟩
  have HDK:=hide hdk
  have HB135:=hide (hdk.kept.blk HB13.out (by simp))
  have HB75:=hide (hdk.kept.blk HB74.out (by simp))
  have HCW:=hide (show ∀ W,Kept [] w5 W→True∧(W.cell? ⟨g13,0,none⟩=some (.int .i64 b)∧W.cell? ⟨g13,1,none⟩=some (.int .i64 s)∧W.cell? ⟨g13,2,none⟩=some (.int .i64 l))∧W.cell? ⟨g7,0,none⟩=some (.int .i64 p.s)∧W.cell? ⟨g7,1,none⟩=some (.int .i64 p.o)∧W.cell? ⟨g7,2,none⟩=some (.int .i64 p.l)∧W.cell? ⟨g7,3,none⟩=some (.int .i64 p.v)∧W.cell? ⟨g7,4,none⟩=some (.int .i64 p.m)from fun W k=>⟨trivial,⟨(k.blk HB135.out (by simp)).cell 0,(k.blk HB135.out (by simp)).cell 1,(k.blk HB135.out (by simp)).cell 2⟩,cell5 (k.blk HB75.out (by simp))⟩)
  obtain⟨a0,ha0⟩:∃ a,p.s%s=a:=⟨_,rfl⟩
  obtain⟨a2,ha2⟩:∃ a,p.l%1048576=a:=⟨_,rfl⟩
  obtain⟨a3,ha3⟩:∃ a,p.v%4294967296=a:=⟨_,rfl⟩
  obtain⟨a4,ha4⟩:∃ a,p.m%1048576=a:=⟨_,rfl⟩
  have hb0:0≤a0∧a0≤s-1:=by rw[←ha0];exact⟨Int.emod_nonneg _ (by omega),by have:=Int.emod_lt_of_pos p.s (show(0:Int)<s by omega);omega⟩
  have hb2:0≤a2∧a2≤1048575:=by omega
  have hb3:0≤a3∧a3≤4294967295:=by omega
  have hb4:0≤a4∧a4≤1048575:=by omega
  have hq2:IntKind.i64.wrap (1+a2)=1+a2:=IntWalk.i64_in _ (by omega)
  have hq4:IntKind.i64.wrap (1+a4)=1+a4:=IntWalk.i64_in _ (by omega)
  have HA0:=hide ha0
  have HA2:=hide ha2
  have HA3:=hide ha3
  have HA4:=hide ha4
  clear ha0 ha2 ha3 ha4 hdk c0 c1 c2
  go_wp2
  apply once
  intro hgo
  refine wp_region_noPanic ?_
  refine wp_region_held_drew (S:=fun W=>True∧(W.cell? ⟨g13,0,none⟩=some (.int .i64 b)∧W.cell? ⟨g13,1,none⟩=some (.int .i64 s)∧W.cell? ⟨g13,2,none⟩=some (.int .i64 l))∧W.cell? ⟨g7,0,none⟩=some (.int .i64 p.s)∧W.cell? ⟨g7,1,none⟩=some (.int .i64 p.o)∧W.cell? ⟨g7,2,none⟩=some (.int .i64 p.l)∧W.cell? ⟨g7,3,none⟩=some (.int .i64 p.v)∧W.cell? ⟨g7,4,none⟩=some (.int .i64 p.m)) (by kernel_rfl) (by exact HCW.out _ ((Kept.refl [] w5).drew)) (fun hHeld=> ?_)
  refine tK 0 48 rfl ?_
  try simp only[Act.put,pA,pB,pC]
  refine tK 1 49 rfl ?_
  try simp only[Act.put,pA,pB,pC]
  refine tK 2 50 rfl ?_
  try simp only[Act.put,pA,pB,pC]
  refine tK 3 51 rfl ?_
  try simp only[Act.put,pA,pB,pC]
  refine tK 5 53 rfl ?_
  try simp only[Act.put,pA,pB,pC]
  refine tK 6 54 rfl ?_
  try simp only[Act.put,pA,pB,pC]
  refine tK 9 57 rfl ?_
  try simp only[Act.put,pA,pB,pC]
  refine tK 10 58 rfl ?_
  try simp only[Act.put,pA,pB,pC]
  refine tK 12 60 rfl ?_
  try simp only[Act.put,pA,pB,pC]
  refine tK 13 61 rfl ?_
  try simp only[Act.put,pA,pB,pC]
  refine next_two (i:=4) (j:=17) (o:=⟨some 52,_,_,_,_,_⟩) (o':=⟨some 18,_,_,_,_,_⟩) (by kernel_rfl) rfl (by rfl) rfl (by rfl) (fun K hK=> ?_) (fun K hK=> ?_)
  ·go_simp
   refine(round_any p.s s _ (by omega) (by omega)).mono ?_
   rintro e w6 ⟨rfl,rfl⟩
   rw[HA0.out]
   refine hK _ _ (by exact hHeld) ?_
   have hHeld:=hHeld
   clear hK K
   try simp only[Act.put,pA,pB,pC]
   refine next_two (i:=7) (j:=17) (o:=⟨some 55,_,_,_,_,_⟩) (o':=⟨some 18,_,_,_,_,_⟩) (by kernel_rfl) rfl (by rfl) rfl (by rfl) (fun K hK=> ?_) (fun K hK=> ?_)
   ·go_simp
    refine(round_any p.l 1048576 _ (by omega) (by omega)).mono ?_
    rintro e w6 ⟨rfl,rfl⟩
    rw[HA2.out]
    refine hK _ _ (by exact hHeld) ?_
    have hHeld:=hHeld
    clear hK K
    try simp only[Act.put,pA,pB,pC]
    refine tK 8 56 rfl ?_
    try simp only[Act.put,pA,pB,pC]
    refine next_two (i:=11) (j:=17) (o:=⟨some 59,_,_,_,_,_⟩) (o':=⟨some 18,_,_,_,_,_⟩) (by kernel_rfl) rfl (by rfl) rfl (by rfl) (fun K hK=> ?_) (fun K hK=> ?_)
    ·go_simp
     refine(round_any p.v 4294967296 _ (by omega) (by omega)).mono ?_
     rintro e w6 ⟨rfl,rfl⟩
     rw[HA3.out]
     refine hK _ _ (by exact hHeld) ?_
     have hHeld:=hHeld
     clear hK K
     try simp only[Act.put,pA,pB,pC]
     refine next_two (i:=14) (j:=17) (o:=⟨some 62,_,_,_,_,_⟩) (o':=⟨some 18,_,_,_,_,_⟩) (by kernel_rfl) rfl (by rfl) rfl (by rfl) (fun K hK=> ?_) (fun K hK=> ?_)
     ·go_simp
      refine(round_any p.m 1048576 _ (by omega) (by omega)).mono ?_
      rintro e w6 ⟨rfl,rfl⟩
      rw[HA4.out]
      refine hK _ _ (by exact hHeld) ?_
      have hHeld:=hHeld
      clear hK K
      try simp only[Act.put,pA,pB,pC]
      refine tK 15 63 rfl ?_
      try simp only[Act.put,pA,pB,pC]
      refine tK 16 64 rfl ?_
      try simp only[Act.put,pA,pB,pC]
      refine hO 17 (some 18) rfl fun K hK=> ?_
      go_simp
      refine hK.out _ _ (by exact HCW.out (w5.drew.alloc (.cells #[.int .i64 0,.int .i64 0,.int .i64 0,.int .i64 0,.int .i64 0] 24)) (((Kept.refl [] w5).drew).alloc _)) (fun hHeld=> ?_)
      clear hK K
      try simp only[Act.put,pA,pB,pC]
      refine hO 18 none rfl fun K hK=> ?_
      go_simp
      refine hK.out _ _ (by exact HCW.out _ (((Kept.refl [] w5).drew).alloc _)) (fun hHeld=> ?_)
      clear hK K
      try simp only[Act.put,pA,pB,pC]
      refine wpAnyH_done (by kernel_rfl) ?_ _
      refine NoPanic.normal ?_
      exact hgo.out
     ·go_simp
      refine hK _ _ (by exact HCW.out (w5.drew.alloc (.cells #[.int .i64 0,.int .i64 0,.int .i64 0,.int .i64 0,.int .i64 0] 24)) (((Kept.refl [] w5).drew).alloc _)) ?_
      have hHeld:=HCW.out (w5.drew.alloc (.cells #[.int .i64 0,.int .i64 0,.int .i64 0,.int .i64 0,.int .i64 0] 24)) (((Kept.refl [] w5).drew).alloc _)
      clear hK K
      try simp only[Act.put,pA,pB,pC]
      refine hO 14 (some 62) rfl fun K hK=> ?_
      go_simp
      refine(round_any p.m 1048576 _ (by omega) (by omega)).mono ?_
      rintro e w6 ⟨rfl,rfl⟩
      rw[HA4.out]
      refine hK.out _ _ (by exact hHeld) (fun hHeld=> ?_)
      clear hK K
      try simp only[Act.put,pA,pB,pC]
      refine tK 15 63 rfl ?_
      try simp only[Act.put,pA,pB,pC]
      refine tK 16 64 rfl ?_
      try simp only[Act.put,pA,pB,pC]
      refine hO 18 none rfl fun K hK=> ?_
      go_simp
      refine hK.out _ _ (by exact HCW.out _ (((Kept.refl [] w5).drew).alloc _)) (fun hHeld=> ?_)
      clear hK K
      try simp only[Act.put,pA,pB,pC]
      refine wpAnyH_done (by kernel_rfl) ?_ _
      refine NoPanic.normal ?_
      exact hgo.out
    ·go_simp
     refine hK _ _ (by exact HCW.out (w5.drew.alloc (.cells #[.int .i64 0,.int .i64 0,.int .i64 0,.int .i64 0,.int .i64 0] 24)) (((Kept.refl [] w5).drew).alloc _)) ?_
     have hHeld:=HCW.out (w5.drew.alloc (.cells #[.int .i64 0,.int .i64 0,.int .i64 0,.int .i64 0,.int .i64 0] 24)) (((Kept.refl [] w5).drew).alloc _)
     clear hK K
     try simp only[Act.put,pA,pB,pC]
     refine hO 11 (some 59) rfl fun K hK=> ?_
     go_simp
     refine(round_any p.v 4294967296 _ (by omega) (by omega)).mono ?_
     rintro e w6 ⟨rfl,rfl⟩
     rw[HA3.out]
     refine hK.out _ _ (by exact hHeld) (fun hHeld=> ?_)
     clear hK K
     try simp only[Act.put,pA,pB,pC]
     refine hO 14 (some 62) rfl fun K hK=> ?_
     go_simp
     refine(round_any p.m 1048576 _ (by omega) (by omega)).mono ?_
     rintro e w6 ⟨rfl,rfl⟩
     rw[HA4.out]
     refine hK.out _ _ (by exact hHeld) (fun hHeld=> ?_)
     clear hK K
     try simp only[Act.put,pA,pB,pC]
     refine tK 15 63 rfl ?_
     try simp only[Act.put,pA,pB,pC]
     refine tK 16 64 rfl ?_
     try simp only[Act.put,pA,pB,pC]
     refine hO 18 none rfl fun K hK=> ?_
     go_simp
     refine hK.out _ _ (by exact HCW.out _ (((Kept.refl [] w5).drew).alloc _)) (fun hHeld=> ?_)
     clear hK K
     try simp only[Act.put,pA,pB,pC]
     refine wpAnyH_done (by kernel_rfl) ?_ _
     refine NoPanic.normal ?_
     exact hgo.out
   ·go_simp
    refine hK _ _ (by exact HCW.out (w5.drew.alloc (.cells #[.int .i64 0,.int .i64 0,.int .i64 0,.int .i64 0,.int .i64 0] 24)) (((Kept.refl [] w5).drew).alloc _)) ?_
    have hHeld:=HCW.out (w5.drew.alloc (.cells #[.int .i64 0,.int .i64 0,.int .i64 0,.int .i64 0,.int .i64 0] 24)) (((Kept.refl [] w5).drew).alloc _)
    clear hK K
    try simp only[Act.put,pA,pB,pC]
    refine hO 7 (some 55) rfl fun K hK=> ?_
    go_simp
    refine(round_any p.l 1048576 _ (by omega) (by omega)).mono ?_
    rintro e w6 ⟨rfl,rfl⟩
    rw[HA2.out]
    refine hK.out _ _ (by exact hHeld) (fun hHeld=> ?_)
    clear hK K
    try simp only[Act.put,pA,pB,pC]
    refine tK 8 56 rfl ?_
    try simp only[Act.put,pA,pB,pC]
    refine hO 11 (some 59) rfl fun K hK=> ?_
    go_simp
    refine(round_any p.v 4294967296 _ (by omega) (by omega)).mono ?_
    rintro e w6 ⟨rfl,rfl⟩
    rw[HA3.out]
    refine hK.out _ _ (by exact hHeld) (fun hHeld=> ?_)
    clear hK K
    try simp only[Act.put,pA,pB,pC]
    refine hO 14 (some 62) rfl fun K hK=> ?_
    go_simp
    refine(round_any p.m 1048576 _ (by omega) (by omega)).mono ?_
    rintro e w6 ⟨rfl,rfl⟩
    rw[HA4.out]
    refine hK.out _ _ (by exact hHeld) (fun hHeld=> ?_)
    clear hK K
    try simp only[Act.put,pA,pB,pC]
    refine tK 15 63 rfl ?_
    try simp only[Act.put,pA,pB,pC]
    refine tK 16 64 rfl ?_
    try simp only[Act.put,pA,pB,pC]
    refine hO 18 none rfl fun K hK=> ?_
    go_simp
    refine hK.out _ _ (by exact HCW.out _ (((Kept.refl [] w5).drew).alloc _)) (fun hHeld=> ?_)
    clear hK K
    try simp only[Act.put,pA,pB,pC]
    refine wpAnyH_done (by kernel_rfl) ?_ _
    refine NoPanic.normal ?_
    exact hgo.out
  ·go_simp
   refine hK _ _ (by exact HCW.out (w5.drew.alloc (.cells #[.int .i64 0,.int .i64 0,.int .i64 0,.int .i64 0,.int .i64 0] 24)) (((Kept.refl [] w5).drew).alloc _)) ?_
   have hHeld:=HCW.out (w5.drew.alloc (.cells #[.int .i64 0,.int .i64 0,.int .i64 0,.int .i64 0,.int .i64 0] 24)) (((Kept.refl [] w5).drew).alloc _)
   clear hK K
   try simp only[Act.put,pA,pB,pC]
   refine hO 4 (some 52) rfl fun K hK=> ?_
   go_simp
   refine(round_any p.s s _ (by omega) (by omega)).mono ?_
   rintro e w6 ⟨rfl,rfl⟩
   rw[HA0.out]
   refine hK.out _ _ (by exact hHeld) (fun hHeld=> ?_)
   clear hK K
   try simp only[Act.put,pA,pB,pC]
   refine hO 7 (some 55) rfl fun K hK=> ?_
   go_simp
   refine(round_any p.l 1048576 _ (by omega) (by omega)).mono ?_
   rintro e w6 ⟨rfl,rfl⟩
   rw[HA2.out]
   refine hK.out _ _ (by exact hHeld) (fun hHeld=> ?_)
   clear hK K
   try simp only[Act.put,pA,pB,pC]
   refine tK 8 56 rfl ?_
   try simp only[Act.put,pA,pB,pC]
   refine hO 11 (some 59) rfl fun K hK=> ?_
   go_simp
   refine(round_any p.v 4294967296 _ (by omega) (by omega)).mono ?_
   rintro e w6 ⟨rfl,rfl⟩
   rw[HA3.out]
   refine hK.out _ _ (by exact hHeld) (fun hHeld=> ?_)
   clear hK K
   try simp only[Act.put,pA,pB,pC]
   refine hO 14 (some 62) rfl fun K hK=> ?_
   go_simp
   refine(round_any p.m 1048576 _ (by omega) (by omega)).mono ?_
   rintro e w6 ⟨rfl,rfl⟩
   rw[HA4.out]
   refine hK.out _ _ (by exact hHeld) (fun hHeld=> ?_)
   clear hK K
   try simp only[Act.put,pA,pB,pC]
   refine tK 15 63 rfl ?_
   try simp only[Act.put,pA,pB,pC]
   refine tK 16 64 rfl ?_
   try simp only[Act.put,pA,pB,pC]
   refine hO 18 none rfl fun K hK=> ?_
   go_simp
   refine hK.out _ _ (by exact HCW.out _ (((Kept.refl [] w5).drew).alloc _)) (fun hHeld=> ?_)
   clear hK K
   try simp only[Act.put,pA,pB,pC]
   refine wpAnyH_done (by kernel_rfl) ?_ _
   refine NoPanic.normal ?_
   exact hgo.out
  obtain⟨g18,hg18⟩:∃ g,w5.heap.size=g:=⟨_,rfl⟩
  obtain⟨w6,hw6⟩:∃ w6,(w5.alloc (.cells #[.int .i64 a0,.int .i64 0,.int .i64 (1+a2),.int .i64 a3,.int .i64 (1+a4)] 24)).drew=w6:=⟨_,rfl⟩
  rw[hg18,hw6]
  have k6:Kept [] w5 w6:=by rw[←hw6];exact(((Kept.refl [] w5).alloc _)).drew
  have HB18:Hid (Blk w6 g18 24 #[.int .i64 a0,.int .i64 0,.int .i64 (1+a2),.int .i64 a3,.int .i64 (1+a4)]):=hide (by rw[←hw6,←hg18];exact((Kept.refl [] _).drew).blk (Blk.new w5 _ _) (by simp))
  have HLW:=hide ((Lw.of_desk HK4.out HDK.out).keep k6)
  have HB136:=hide (k6.blk HB135.out (by simp))
  have HB76:=hide (k6.blk HB75.out (by simp))
  have hnn:=HDK.out.hn
  have HAPP:=hide (show ∀ x∈[cfgB g13 b s l,posB g7 p,posB g18 ⟨a0,0,1+a2,a3,1+a4⟩],x.1∉F++G∧w.heap.size≤x.1 from by
   have h13:=HB13.out.lt
   have h7:=HB74.out.lt
   have hF:=HDK.out.new
   have ho:=HDK.out.old
   have hG:=HDK.out.dd.lt
   have hz:=HDK.out.kept.size
   intro x hx
   rcases List.mem_cons.1 hx with rfl|hx
   ·exact⟨fun hm=>by have h1:=hF _ hm;dsimp only[cfgB]at h1;omega,by have:=HZ13.out;dsimp only[cfgB];omega⟩
   rcases List.mem_cons.1 hx with rfl|hx
   ·exact⟨fun hm=>by have h1:=hF _ hm;dsimp only[posB]at h1;omega,by have:=HZ7.out;dsimp only[posB];omega⟩
   rcases List.mem_cons.1 hx with rfl|hx
   ·exact⟨fun hm=>by have h1:=hG _ hm;dsimp only[posB]at h1;omega,by have:=HK4.out.size;dsimp only[posB];omega⟩
   cases hx)
  clear hg18 hw6 k6 HDK HB135 HB75 HCW HB13 HB74 HK4 HZ13 HZ7
  have hseg:=mul_bd hb0 HCF.out
  obtain⟨aN,haN⟩:∃ aN:Nat,2+2*r+4*q+a0*l=(aN:Int):=⟨(2+2*r+4*q+a0*l).toNat,by have:=HLW.out.geo.rf.bounds;omega⟩
  have hgb:=HLW.out.geo.rf.bounds
  have hsl:(aN:Int)+l≤nn:=by omega
  have hn4:1≤nn∧nn≤4096:=by
   have h1:=mul_top HCF.out
   omega
  have hR0:=Reads.new nn hn4.1 hn4.2
  have hRn:(Dk.new nn).n=nn:=by unfold Dk.n Dk.new;simp
  have hHm:(headOf ⟨a0,0,1+a2,a3,1+a4⟩).may=true:=by
   rw[hd.Hd.may_iff]
   show(0≤a0∧a0≤31)∧(1≤1+a4∧1+a4≤2147483647)∧(1≤1+a2∧1+a2≤2147483647)∧(0≤a3∧a3≤4294967295)
   omega
  have HKH:=hide (khead_any F G d rd (Dk.new nn) ⟨a0,0,1+a2,a3,1+a4⟩ b s l r q aN w6 HLW.out.dd hR0 HLW.out.geo.rf hb0 hHm haN (by rw[hRn];omega) (by show 0≤900000;omega))
  have HP0:=hide (put_reads hR0 aN (headOf ⟨a0,0,1+a2,a3,1+a4⟩).bytes 1 (by rw[hRn];omega) (hd.Hd.bytes_len _))
  have HR0:=hide hR0
  have HRN:=hide hRn
  have HSL:=hide hsl
  have HN4:=hide hn4
  have HAN:=hide haN
  clear hseg hgb hsl hn4 hR0 hRn hHm haN hnn
  have HRF:=hide HLW.out.geo.rf
  have HLP:Hid (Lp w6 w F G d rd g (Dk.new nn) b s l r q [cfgB g13 b s l,posB g7 p,posB g18 ⟨a0,0,1+a2,a3,1+a4⟩]):=hide ⟨HLW.out,(by
   intro x hx
   rcases List.mem_cons.1 hx with rfl|hx
   ·exact HB136.out
   rcases List.mem_cons.1 hx with rfl|hx
   ·exact HB76.out
   rcases List.mem_cons.1 hx with rfl|hx
   ·exact HB18.out
   cases hx),HAPP.out⟩
  clear HLW HB136 HB76 HB18 HAPP
  go_upto_region 8 with fail
  go_cut [73]from 65 to 73 (fun v73 wx=>v73= .bool false∧∃ (F2 G2:List Nat) (D2:Dk),Hid (Lp wx w F2 G2 d rd g D2 b s l r q [cfgB g13 b s l,posB g7 p,posB g18 ⟨a0,0,1+a2,a3,1+a4⟩])∧Hid (Reads D2∧D2.n=nn∧D2.acts≤10))
  case first=>
   obtain⟨c0,c1,c2⟩:=HLP.out.cfg (y:=g13) (b':=b) (s':=s) (l':=l) (by simp)
   obtain⟨p0,p1,p2,p3,p4⟩:w6.cell? ⟨g18,0,none⟩=some (.int .i64 a0)∧w6.cell? ⟨g18,1,none⟩=some (.int .i64 0)∧w6.cell? ⟨g18,2,none⟩=some (.int .i64 (1+a2))∧w6.cell? ⟨g18,3,none⟩=some (.int .i64 a3)∧w6.cell? ⟨g18,4,none⟩=some (.int .i64 (1+a4)):=HLP.out.pos (p:=⟨a0,0,1+a2,a3,1+a4⟩) (by simp)
   cases hed
   ·go_wp2_with fail
    go_meet
    exact⟨rfl,F,G,_,HLP,hide ⟨HR0.out,HRN.out,by show 0≤10;omega⟩⟩
   ·go_wp2_with fail
    refine HKH.out.mono ?_
    rintro e w7 ⟨rfl,hto⟩
    obtain⟨F2,G2,h1,_⟩:=HLP.out.put hto
    have HLP7:=hide h1
    have HRD7:Hid (Reads (putD (Dk.new nn) aN (headOf ⟨a0,0,1+a2,a3,1+a4⟩).bytes)∧(putD (Dk.new nn) aN (headOf ⟨a0,0,1+a2,a3,1+a4⟩).bytes).n=nn∧(putD (Dk.new nn) aN (headOf ⟨a0,0,1+a2,a3,1+a4⟩).bytes).acts≤10):=hide ⟨HP0.out.1,by rw[HP0.out.2.1];exact HRN.out,by rw[HP0.out.2.2.1];show 0+1+1≤10;omega⟩
    clear hto h1 p0 p1 p2 p3 p4 c0 c1 c2 HKH
    go_wp2_with fail
    go_meet
    exact⟨rfl,F2,G2,_,HLP7,HRD7⟩
  case rest=>
   obtain⟨rfl,F2,G2,D2,HLP2,HD2⟩:=hcut
   clear HLP HKH HP0 HR0 HRN
   generalize wc=w7 at*
   obtain⟨g19,hg19⟩:∃ y,w7.heap.size=y:=⟨_,rfl⟩
   obtain⟨w8,hw8⟩:∃ y,w7.alloc (.cells #[.int .i64 a0,.int .i64 1,.int .i64 (1+a2),.int .i64 a3,.int .i64 (1+a4)] 24)=y:=⟨_,rfl⟩
   have k8:Kept [] w7 w8:=by rw[←hw8];exact(Kept.refl [] w7).alloc _
   have HLP8:Hid (Lp w8 w F2 G2 d rd g D2 b s l r q [posB g19 ⟨a0,1,1+a2,a3,1+a4⟩,cfgB g13 b s l,posB g7 p,posB g18 ⟨a0,0,1+a2,a3,1+a4⟩]):=hide (HLP2.out.add k8 (y:=posB g19 ⟨a0,1,1+a2,a3,1+a4⟩) (by rw[←hw8,←hg19];exact Blk.new w7 _ _) (by rw[hg19];exact Nat.le_refl _))
   have HK8:=hide k8
   obtain⟨p0,p1,p2,p3,p4⟩:w7.cell? ⟨g18,0,none⟩=some (.int .i64 a0)∧w7.cell? ⟨g18,1,none⟩=some (.int .i64 0)∧w7.cell? ⟨g18,2,none⟩=some (.int .i64 (1+a2))∧w7.cell? ⟨g18,3,none⟩=some (.int .i64 a3)∧w7.cell? ⟨g18,4,none⟩=some (.int .i64 (1+a4)):=HLP2.out.pos (p:=⟨a0,0,1+a2,a3,1+a4⟩) (by simp)
   obtain⟨c0,c1,c2⟩:=HLP8.out.cfg (y:=g13) (b':=b) (s':=s) (l':=l) (by simp)
   obtain⟨q0,q1,q2,q3,q4⟩:w8.cell? ⟨g19,0,none⟩=some (.int .i64 a0)∧w8.cell? ⟨g19,1,none⟩=some (.int .i64 1)∧w8.cell? ⟨g19,2,none⟩=some (.int .i64 (1+a2))∧w8.cell? ⟨g19,3,none⟩=some (.int .i64 a3)∧w8.cell? ⟨g19,4,none⟩=some (.int .i64 (1+a4)):=HLP8.out.pos (p:=⟨a0,1,1+a2,a3,1+a4⟩) (by simp)
   have hlb:LogB ⟨a0,1,1+a2,a3,1+a4⟩ 1048576:=⟨by show(1:Int)≤1;omega,by show 1≤1+a4∧1+a4≤1048576;omega,by show 1≤1+a2∧1+a2≤1048576;omega,hb3⟩
   have hlk:LogOk ⟨a0,1,1+a2,a3,1+a4⟩ 0:=⟨by show(1:Int)≤1∧(1:Int)≤1000;omega,by show 0≤1+a4∧1+a4≤1100000+4*((0:Nat):Int);omega,by show 0≤1+a2∧1+a2≤1100000+4*((0:Nat):Int);omega,hb3⟩
   have hrs:rs.length≤12∧∀ y∈rs,y.ks.length≤6∧(-1000≤y.up∧y.up≤1000)∧(-1000≤y.skew∧y.skew≤1000):=⟨HFEW.out.2,fun y hy=>by
    have h:=HFEW.out.1 y hy
    unfold krFit at h
    omega⟩
   have hsl:=HSL.out
   have hnD:=HD2.out.2.1
   obtain⟨i1,i2,i3,i4,i5,i6⟩:=logD_keep aN l rs D2 ⟨a0,1,1+a2,a3,1+a4⟩ 1048576 HD2.out.1 (by omega) hlb (by have:=hrs.1;omega) (by show(1:Int)≤l-1;have:=HCF.out;omega) (by have:=HCF.out;omega) (by have:=hrs.1;omega) (fun y hy=>(hrs.2 y hy).1)
   have HLOG:=hide (klog_any F2 G2 d rd D2 ⟨a0,1,1+a2,a3,1+a4⟩ b s l r q aN A n c rs vs w8 HLP8.out.lw.dd HD2.out.1 HRF.out hb0 HAN.out (by omega) (by have:=HD2.out.2.2;omega) hlk HN.out (by have h1:=hrs.1;have h2:=HN.out;omega) hrs.2 ((HVR.out (F2++G2) HLP8.out.lw.new).kept HLP8.out.lw.kept (by simp)) ((HKR.out (F2++G2) HLP8.out.lw.new).kept HLP8.out.lw.kept (by simp)))
   obtain⟨RES,hRES⟩:∃ y,logD D2 aN l ⟨a0,1,1+a2,a3,1+a4⟩ rs=y:=⟨_,rfl⟩
   rw[hRES]at i1 i2 i3 HLOG
   have HD3:Hid (Reads RES.1∧RES.1.n=nn∧RES.1.acts≤200):=hide ⟨i1,by rw[i2];exact hnD,by have h1:=hrs.1;have h2:=HD2.out.2.2;omega⟩
   clear i1 i2 i3 i4 i5 i6 hRES hlb hlk hrs hnD k8 HFEW
   go_wp2_with fail
   refine HLOG.out.mono ?_
   rintro e w9 ⟨rfl,hto⟩
   obtain⟨F3,G3,h1,_⟩:=HLP8.out.put hto
   have HLP9:=hide h1
   clear hto h1 HLOG HLP8 HLP2 HD2 p0 p1 p2 p3 p4 q0 q1 q2 q3 q4 c0 c1 c2 hw8 HKR HVR HN HK8 hg19
   obtain⟨c0,c1,c2⟩:=HLP9.out.cfg (y:=g13) (b':=b) (s':=s) (l':=l) (by simp)
   have p0:w9.cell? ⟨g18,0,none⟩=some (.int .i64 a0):=(HLP9.out.pos (p:=⟨a0,0,1+a2,a3,1+a4⟩) (by simp)).1
   go_wp2_with fail
   refine(geom.rsegAt_yes b s l r q a0 w9 HRF.out hb0).mono ?_
   rintro e w10 ⟨rfl,hk10⟩
   rw[HAN.out]
   have HLP10:=hide (HLP9.out.keep hk10)
   clear c0 c1 c2 p0 hk10 HLP9
   obtain⟨c0,c1,c2⟩:=HLP10.out.cfg (y:=g13) (b':=b) (s':=s) (l':=l) (by simp)
   go_upto_region 16 with fail
   go_cut [98]from 91 to 98 (fun v wx=>∃ T:Bool,v= .bool T∧(T=true→0≤tu∧tu<l)∧wx=w10)
   case first=>
    by_cases h0:0≤tu
    ·have t0:decide (tu≥0)=true:=decide_eq_true h0
     by_cases h1:tu<l
     ·have t1:decide (tu<l)=true:=decide_eq_true h1
      go_wp2_with fail
      go_meet
      exact⟨true,by first|rfl|simp [*],fun _=>⟨h0,h1⟩,rfl⟩
     ·have t1:decide (tu<l)=false:=decide_eq_false h1
      go_wp2_with fail
      go_meet
      exact⟨false,by first|rfl|simp [*],fun h=>by simp at h,rfl⟩
    ·have t0:decide (tu≥0)=false:=decide_eq_false h0
     go_wp2_with fail
     go_meet
     exact⟨false,by first|rfl|simp [*],fun h=>by simp at h,rfl⟩
   case rest=>
    obtain⟨T,rfl,hT,hwx⟩:=hcut
    rw[hwx]
    clear hwx
    have HT:=hide hT
    clear hT
    go_upto_if 98 with fail
    go_cut [21,22]from 99 to 122 (fun _ _ wx=>∃ (F3 G3:List Nat) (D3:Dk),Hid (Lp wx w F3 G3 d rd g D3 b s l r q [posB g19 ⟨a0,1,1+a2,a3,1+a4⟩,cfgB g13 b s l,posB g7 p,posB g18 ⟨a0,0,1+a2,a3,1+a4⟩])∧Hid (Reads D3∧D3.n=nn∧D3.acts≤300))
    case first=>
     cases T
     ·go_wp2_with fail
      go_meet
      exact⟨F3,G3,RES.1,HLP10,hide ⟨HD3.out.1,HD3.out.2.1,by have:=HD3.out.2.2;omega⟩⟩
     ·have hT:=HT.out rfl
      obtain⟨tN,rfl⟩:∃ tN:Nat,tu=(tN:Int):=⟨tu.toNat,by omega⟩
      have hcf:=HCF.out
      have ht27:tN<27:=by omega
      have hsl:=HSL.out
      have hn4:=HN4.out
      obtain⟨aT,haT⟩:∃ aT:Nat,(aN:Int)+(tN:Int)=(aT:Int):=⟨aN+tN,by omega⟩
      have haT5:aT<nn:=by omega
      have hwt:IntKind.i64.wrap ((aN:Int)+(tN:Int))=(aT:Int):=by rw[haT];exact IntWalk.i64_in _ (by omega)
      have hrd:RES.1.read (aT:Int)=(0,disk.sec RES.1.now aT):=HD3.out.1.read aT (by rw[HD3.out.2.1];exact haT5)
      have hln:(disk.sec RES.1.now aT).length=64:=HD3.out.1.sec aT (by rw[HD3.out.2.1];exact haT5)
      have HRD:=hide hrd
      have HLN:=hide hln
      clear hrd hln
      go_wp2_with fail
      refine(rread_own rd G3 RES.1 (aT:Int) w10 HLP10.out.lw.dd.b (by have:=HD3.out.2.2;omega)).mono ?_
      rintro e w11 ⟨⟨Ab,cb,rfl,_,hownb⟩,hk11⟩
      rw[HRD.out]at hownb ⊢
      dsimp only at hownb ⊢
      rw[HLN.out]at hownb ⊢
      obtain⟨b0,hb0e⟩:∃ b0,disk.sec RES.1.now aT=b0:=⟨_,rfl⟩
      rw[hb0e]at hownb
      have hb0l:b0.length=64:=by rw[←hb0e];exact HLN.out
      obtain⟨_,_,hce,hcc,_⟩:=own_read hownb
      cases hce
      obtain⟨gb,hgb,hgl,hrow⟩:=row64p hownb
      obtain rfl:Ab=_:=hgb
      have HROW:=hide hrow
      have hFl:=HLP10.out.lw.dd.lt
      have HGF:=hide (show gb∉F3++G3 from fun hm=>by have:=hFl gb hm;omega)
      have HGL:=hide hgl
      have HCC:=hide hcc
      have HK11:=hide hk11
      clear hb0e hgl hrow hFl hk11 hownb hcc
      have hy:b0[tN]? = some (b0.getD tN 0):=by rw[List.getD_eq_getElem?_getD,List.getElem?_eq_getElem (by omega)];rfl
      have hcb:w11.cell? ⟨gb,tN,none⟩=some (B (b0.getD tN 0)):=HROW.out.cell (by rw[List.getElem?_map,hy];rfl)
      obtain⟨y,hyy⟩:∃ y,b0.getD tN 0=y:=⟨_,rfl⟩
      rw[hyy]at hcb
      unfold B at hcb
      have hfz:=HROW.out.frozen tN
      obtain⟨xb,_,hbx⟩:=crc.turn_byte y 0 (by omega)
      have HXB:=hide (show bits .xor .u8 (y.toNat:Int) 1=(xb.toNat:Int)from hbx)
      clear hbx
      have HB0L:=hide hb0l
      have HAT:=hide haT
      clear hyy hb0l hy haT
      have ht0:¬(tN:Int)<0:=by omega
      have ht64:(tN:Int)<64:=by omega
      have ht64n:¬(64:Int)≤(tN:Int):=by omega
      have htn:((tN:Int)).toNat=tN:=Int.toNat_natCast tN
      go_wp2_with fail
      rw[HXB.out]
      have hrS:Row (w11.setCell ⟨gb,tN,none⟩ (.int .u8 (xb.toNat:Int))) gb 5 ((b0.set tN xb).map B):=by rw[List.map_set];exact HROW.out.set_ tN (B xb)
      have hkS:Kept [gb] w11 (w11.setCell ⟨gb,tN,none⟩ (.int .u8 (xb.toNat:Int))):=(Kept.refl [gb] w11).set_ (b:=gb) (.inl (by simp)) tN (.int .u8 (xb.toNat:Int))
      generalize w11.setCell ⟨gb,tN,none⟩ (.int .u8 (xb.toNat:Int))=w12 at hrS hkS ⊢
      have HLP12:=hide (HLP10.out.keep (HK11.out.trans hkS (fun i hi=>by simp at hi;subst hi;exact .inr HGL.out)))
      have HRS:=hide hrS
      clear hrS hkS hcb hfz
      have hPT:=put_reads HD3.out.1 aT (b0.set tN xb) 1 (by rw[HD3.out.2.1];omega) (by rw[List.length_set];exact HB0L.out)
      have HD4:Hid (Reads (putD RES.1 (aT:Int) (b0.set tN xb))∧(putD RES.1 (aT:Int) (b0.set tN xb)).n=nn∧(putD RES.1 (aT:Int) (b0.set tN xb)).acts≤300):=hide ⟨hPT.1,by rw[hPT.2.1];exact HD3.out.2.1,by rw[hPT.2.2.1];have:=HD3.out.2.2;omega⟩
      clear hPT
      refine(put_any F3 G3 d rd RES.1 aT (some ⟨gb,0,none⟩) 64 cb 1 (b0.set tN xb) w12 HLP12.out.lw.dd HD3.out.1.live (by rw[HD3.out.2.1];omega) (by omega) (by have:=HD3.out.2.2;omega) (by rw[List.length_set];exact HB0L.out) rfl HCC.out (HRS.out.vals0 HGF.out)).mono ?_
      rintro e w13 ⟨rfl,hto⟩
      obtain⟨F4,G4,h1,_⟩:=HLP12.out.put hto
      have HLP13:=hide h1
      clear hto h1
      go_wp2_with fail
      go_meet
      exact⟨F4,G4,_,HLP13,HD4⟩
    case rest=>
     obtain⟨F4,G4,D4,HLP12,HD4⟩:=hcut
     clear HLP10 HD3 HT c0 c1 c2
     generalize wc=w12 at*
     obtain⟨c0,c1,c2⟩:=HLP12.out.cfg (y:=g13) (b':=b) (s':=s) (l':=l) (by simp)
     go_upto_region 21 with fail
     go_cut [130]from 123 to 130 (fun v wx=>∃ T:Bool,v= .bool T∧(T=true→0≤fa∧fa<l)∧wx=w12)
     case first=>
      by_cases h0:0≤fa
      ·have t0:decide (fa≥0)=true:=decide_eq_true h0
       by_cases h1:fa<l
       ·have t1:decide (fa<l)=true:=decide_eq_true h1
        go_wp2_with fail
        go_meet
        exact⟨true,by first|rfl|simp [*],fun _=>⟨h0,h1⟩,rfl⟩
       ·have t1:decide (fa<l)=false:=decide_eq_false h1
        go_wp2_with fail
        go_meet
        exact⟨false,by first|rfl|simp [*],fun h=>by simp at h,rfl⟩
      ·have t0:decide (fa≥0)=false:=decide_eq_false h0
       go_wp2_with fail
       go_meet
       exact⟨false,by first|rfl|simp [*],fun h=>by simp at h,rfl⟩
     case rest=>
      obtain⟨T,rfl,hT,hwx⟩:=hcut
      rw[hwx]
      clear hwx
      have HT:=hide hT
      clear hT
      go_upto_if 130 with fail
      go_cut [24]from 131 to 140 (fun _ wx=>∃ (F5 G5:List Nat) (D5:Dk),Hid (Lp wx w F5 G5 d rd g D5 b s l r q [posB g19 ⟨a0,1,1+a2,a3,1+a4⟩,cfgB g13 b s l,posB g7 p,posB g18 ⟨a0,0,1+a2,a3,1+a4⟩])∧Hid (D5.ok∧D5.acts≤300))
      case first=>
       cases T
       ·go_wp2_with fail
        go_meet
        exact⟨F4,G4,D4,HLP12,hide ⟨HD4.out.1.ok,HD4.out.2.2⟩⟩
       ·have hT:=HT.out rfl
        obtain⟨fN,rfl⟩:∃ fN:Nat,fa=(fN:Int):=⟨fa.toNat,by omega⟩
        have hcf:=HCF.out
        have hsl:=HSL.out
        have hn4:=HN4.out
        obtain⟨aT,haT⟩:∃ aT:Nat,(aN:Int)+(fN:Int)=(aT:Int):=⟨aN+fN,by omega⟩
        have hwt:IntKind.i64.wrap ((aN:Int)+(fN:Int))=(aT:Int):=by rw[haT];exact IntWalk.i64_in _ (by omega)
        go_wp2_with fail
        refine(fault_at d F4 D4 (aT:Int) true w12 HLP12.out.lw.dd.a).mono ?_
        rintro e w14 ⟨rfl,hv,hk⟩
        have HDB:=hide (HLP12.out.lw.dd.b.kept hk (fun x hx hm=>HLP12.out.lw.dd.sep x hm hx))
        have HV:=hide hv
        have HK14:=hide hk
        clear hv hk
        go_wp2_with fail
        refine(rfault_at rd G4 D4 (aT:Int) true w14 HDB.out).mono ?_
        rintro e w15 ⟨rfl,hv2,hk2⟩
        have hto:DdTo w12 w15 F4 d G4 rd (D4.faulted (aT:Int) true).2:=⟨F4,G4,⟨HV.out.kept hk2 (fun x hx hm=>HLP12.out.lw.dd.sep x hx hm),hv2,HLP12.out.lw.dd.sep⟩,fun x hx=> .inl hx,(HK14.out.mono (fun x hx=> .inl (by simp [hx]))).trans (hk2.mono (S':=F4++G4) (fun x hx=> .inl (by simp [hx]))) (fun x hx=> .inl hx)⟩
        obtain⟨F5,G5,h1,_⟩:=HLP12.out.put hto
        have HLP15:=hide h1
        have HD5:Hid ((D4.faulted (aT:Int) true).2.ok∧(D4.faulted (aT:Int) true).2.acts≤300):=hide ⟨(faulted_ok D4 _ HD4.out.1.ok).1,by rw[(faulted_ok D4 _ HD4.out.1.ok).2];exact HD4.out.2.2⟩
        clear hto h1 hv2 hk2
        go_wp2_with fail
        go_meet
        exact⟨F5,G5,_,HLP15,HD5⟩
      case rest=>
       obtain⟨F5,G5,D5,HLP15,HD5⟩:=hcut
       clear HLP12 HD4 HT c0 c1 c2
       generalize wc=w15 at*
       obtain⟨p0,p1,p2,p3,p4⟩:w15.cell? ⟨g18,0,none⟩=some (.int .i64 a0)∧w15.cell? ⟨g18,1,none⟩=some (.int .i64 0)∧w15.cell? ⟨g18,2,none⟩=some (.int .i64 (1+a2))∧w15.cell? ⟨g18,3,none⟩=some (.int .i64 a3)∧w15.cell? ⟨g18,4,none⟩=some (.int .i64 (1+a4)):=HLP15.out.pos (p:=⟨a0,0,1+a2,a3,1+a4⟩) (by simp)
       obtain⟨q0,q1,q2,q3,q4⟩:w15.cell? ⟨g19,0,none⟩=some (.int .i64 a0)∧w15.cell? ⟨g19,1,none⟩=some (.int .i64 1)∧w15.cell? ⟨g19,2,none⟩=some (.int .i64 (1+a2))∧w15.cell? ⟨g19,3,none⟩=some (.int .i64 a3)∧w15.cell? ⟨g19,4,none⟩=some (.int .i64 (1+a4)):=HLP15.out.pos (p:=⟨a0,1,1+a2,a3,1+a4⟩) (by simp)
       obtain⟨s0,s1,s2,s3,s4⟩:=HLP15.out.pos (y:=g7) (p:=p) (by simp)
       obtain⟨gP,hgP⟩:∃ y,w15.heap.size=y:=⟨_,rfl⟩
       obtain⟨w16,hw16⟩:∃ y,w15.alloc (.cells #[.int .i64 a0,.int .i64 0,.int .i64 (1+a2),.int .i64 a3,.int .i64 (1+a4),.int .i64 a0,.int .i64 1,.int .i64 (1+a2),.int .i64 a3,.int .i64 (1+a4),.int .i64 p.s,.int .i64 p.o,.int .i64 p.l,.int .i64 p.v,.int .i64 p.m] 24)=y:=⟨_,rfl⟩
       have k16:Kept [] w15 w16:=by rw[←hw16];exact(Kept.refl [] w15).alloc _
       have hvp:=Vals.blk (S:=[]) 0 (show Blk w16 gP 24 #[.int .i64 a0,.int .i64 0,.int .i64 (1+a2),.int .i64 a3,.int .i64 (1+a4),.int .i64 a0,.int .i64 1,.int .i64 (1+a2),.int .i64 a3,.int .i64 (1+a4),.int .i64 p.s,.int .i64 p.o,.int .i64 p.l,.int .i64 p.v,.int .i64 p.m]by rw[←hw16,←hgP];exact Blk.new w15 _ _) (by simp) (vs:=pcs ⟨a0,0,1+a2,a3,1+a4⟩++(pcs ⟨a0,1,1+a2,a3,1+a4⟩++pcs p)) (fun i v hv=>by simpa [pcs]using hv)
       have HVP:=hide hvp
       have HLP16:=hide (HLP15.out.keep k16)
       clear k16 hvp HLP15
       go_wp2
       clear p0 p1 p2 p3 p4 q0 q1 q2 q3 q4 s0 s1 s2 s3 s4 hw16 hgP
       obtain⟨ad,had⟩:∃ y:Addr,(⟨gP,0,none⟩:Addr)=y:=⟨_,rfl⟩
       rw[had]at HVP ⊢
       clear had
       go_loopw [24] (fun i wr=>∃ j:Nat,j≤3∧i= .int .i64 j∧Hid (Kept [] w16 wr)) (fun i wr=>3-(intOf i).toNat)
       case atStart=>exact⟨0,by omega,rfl,hide (Kept.refl [] w16)⟩
       case round=>
        obtain⟨j,hj,rfl,HKR⟩:=hrel
        have HLPr:=hide (HLP16.out.keep HKR.out)
        by_cases hlt:j<3
        ·have hlt':(j:Int)<3:=by omega
         obtain⟨x,x0,x1,x2,x3,x4⟩:=three_at (HVP.out.kept HKR.out (by simp)) j hlt
         obtain⟨⟨L,E,err⟩,hsc⟩:∃ y,scanOf D5 (ofSeg none s l r q x.s).2.1 (ofSeg none s l r q x.s).2.2 x false=y:=⟨_,rfl⟩
         have hsg:(0≤(ofSeg none s l r q x.s).2.1∧(ofSeg none s l r q x.s).2.1≤10000)∧0≤(ofSeg none s l r q x.s).2.2∧(ofSeg none s l r q x.s).2.2≤27:=ofSeg_bd HLPr.out.lw.geo HCF.out.2.2 x.s
         have hok:=scan_ok HD5.out.1 hsc
         have HOK:=hide (show L.length≤27∧∀ y∈L,y.2.its.length≤6∧y.2.bks.length≤6 from⟨by have:=hok.1;omega,hok.2⟩)
         have HSEG:=hide hsg
         have HSC:=sealed hsc
         clear hsc hok hsg
         go_wp2_with fail
         refine(new_any d g b s l r q x wr HLPr.out.lw.geo).mono ?_
         rintro e w17 ⟨xx,rfl,hxx,hsc17,hk17⟩
         have HXX:=hide (show wr.heap.size≤xx from hxx)
         have HSC17:=hide hsc17
         have hu:=(show w17.cell? (ad.add (j*5))=some (.int .i64 x.s)∧w17.cell? ⟨(ad.add (j*5)).block,(ad.add (j*5)).off+1,none⟩=some (.int .i64 x.o)∧w17.cell? ⟨(ad.add (j*5)).block,(ad.add (j*5)).off+2,none⟩=some (.int .i64 x.l)∧w17.cell? ⟨(ad.add (j*5)).block,(ad.add (j*5)).off+3,none⟩=some (.int .i64 x.v)∧w17.cell? ⟨(ad.add (j*5)).block,(ad.add (j*5)).off+4,none⟩=some (.int .i64 x.m)from⟨hk17.cell x0 (by simp),hk17.cell x1 (by simp),hk17.cell x2 (by simp),hk17.cell x3 (by simp),hk17.cell x4 (by simp)⟩)
         have HU17:=hide hu
         have HK17:=hide hk17
         clear hsc17 hk17 hu hxx x0 x1 x2 x3 x4
         have hneX:=fun W=>neq_pos x x W
         go_wp2
         refine wp_region_noPanic ?_
         refine wp_region_held_drew (S:=fun W=>Kept [] w17 W∧W.cell? (ad.add (j*5))=some (.int .i64 x.s)∧W.cell? ⟨(ad.add (j*5)).block,(ad.add (j*5)).off+1,none⟩=some (.int .i64 x.o)∧W.cell? ⟨(ad.add (j*5)).block,(ad.add (j*5)).off+2,none⟩=some (.int .i64 x.l)∧W.cell? ⟨(ad.add (j*5)).block,(ad.add (j*5)).off+3,none⟩=some (.int .i64 x.v)∧W.cell? ⟨(ad.add (j*5)).block,(ad.add (j*5)).off+4,none⟩=some (.int .i64 x.m)) (by kernel_rfl) (by exact⟨(Kept.refl _ w17).drew,HU17.out⟩) (fun hHeld=> ?_)
         refine tK 0 158 rfl ?_
         try simp only[Act.put,pA,pB,pC]
         refine tK 1 159 rfl ?_
         try simp only[Act.put,pA,pB,pC]
         refine tK 2 160 rfl ?_
         try simp only[Act.put,pA,pB,pC]
         refine tK 3 161 rfl ?_
         try simp only[Act.put,pA,pB,pC]
         refine tK 5 163 rfl ?_
         try simp only[Act.put,pA,pB,pC]
         refine tK 6 164 rfl ?_
         try simp only[Act.put,pA,pB,pC]
         refine tK 7 165 rfl ?_
         try simp only[Act.put,pA,pB,pC]
         refine tK 8 166 rfl ?_
         try simp only[Act.put,pA,pB,pC]
         refine hO 4 (some 162) rfl fun K hK=> ?_
         go_simp
         refine(end_any xx _ _ _ _ _ _ _ _ (HSC17.out.kept hHeld.1 (by simp))).mono ?_
         rintro e w18 ⟨rfl,hk18⟩
         unfold Ps.val
         have HK18:=hide (show Kept [] w17 w18 from hHeld.1.trans hk18 (by simp))
         have HX18:=hide (show(fun W=>Kept [] w17 W∧W.cell? (ad.add (j*5))=some (.int .i64 x.s)∧W.cell? ⟨(ad.add (j*5)).block,(ad.add (j*5)).off+1,none⟩=some (.int .i64 x.o)∧W.cell? ⟨(ad.add (j*5)).block,(ad.add (j*5)).off+2,none⟩=some (.int .i64 x.l)∧W.cell? ⟨(ad.add (j*5)).block,(ad.add (j*5)).off+3,none⟩=some (.int .i64 x.v)∧W.cell? ⟨(ad.add (j*5)).block,(ad.add (j*5)).off+4,none⟩=some (.int .i64 x.m)) w18 from⟨HK18.out,hk18.cell hHeld.2.1 (by simp),hk18.cell hHeld.2.2.1 (by simp),hk18.cell hHeld.2.2.2.1 (by simp),hk18.cell hHeld.2.2.2.2.1 (by simp),hk18.cell hHeld.2.2.2.2.2 (by simp)⟩)
         clear hk18
         refine hK.out _ _ (by exact HX18.out) (fun hHeld=> ?_)
         clear hK K
         try simp only[Act.put,pA,pB,pC]
         refine tK 9 167 rfl ?_
         try simp only[Act.put,pA,pB,pC]
         refine tK 10 168 rfl ?_
         try simp only[Act.put,pA,pB,pC]
         refine tK 11 169 rfl ?_
         try simp only[Act.put,pA,pB,pC]
         refine tK 12 170 rfl ?_
         try simp only[Act.put,pA,pB,pC]
         refine hO 13 (some 171) rfl fun K hK=> ?_
         go_simp
         refine(err_any xx _ _ _ _ _ _ _ _ (HSC17.out.kept HK18.out (by simp))).mono ?_
         rintro e w19 ⟨rfl,rfl⟩
         refine hK.out _ _ (by exact HX18.out) (fun hHeld=> ?_)
         clear hK K
         try simp only[Act.put,pA,pB,pC]
         refine tK 14 172 rfl ?_
         try simp only[Act.put,pA,pB,pC]
         refine tK 15 173 rfl ?_
         try simp only[Act.put,pA,pB,pC]
         refine wpAnyH_done (by kernel_rfl) ?_ _
         refine NoPanic.normal ?_
         have HSC18:=hide (HSC17.out.kept HK18.out (by simp))
         have HLP18:=hide (HLPr.out.keep (HK17.out.trans HK18.out (by simp)))
         have HKR18:=hide (HKR.out.trans (HK17.out.trans HK18.out (by simp)) (by simp))
         have HXL:=hide (show xx<w18.heap.size∧(∀ y∈F5,y≠xx)from⟨HSC18.out.lt,fun y hy=>by have h1:=HLPr.out.lw.dd.a.lt y hy;have h2:=HXX.out;omega⟩)
         have HU18:=hide HX18.out.2
         clear HSC17 HK17 HX18 HLPr HK18 HU17 hneX
         clear hHeld
         go_upto_region 31 with fail
         go_cut [26,27,28]from 174 to 184 (fun v26 v27 v28 wx=>∃ A c ys gE,v26= .slice A L.length c∧v27= .pointer (some ⟨gE,0,none⟩)∧v28= .int .i64 err∧Hid (Vals wx [xx] A ys)∧Hid (FndX wx [xx] L ys)∧Hid (Blk wx gE 24 #[.int .i64 E.s,.int .i64 E.o,.int .i64 E.l,.int .i64 E.v,.int .i64 E.m]∧gE≠xx)∧Hid (Kept [] w18 wx))
         case first=>
          obtain⟨wd,hwd⟩:∃ y,w18.drew=y:=⟨_,rfl⟩
          have hkd:Kept [] w18 wd:=by rw[←hwd];exact(Kept.refl _ w18).drew
          have HKD:=hide hkd
          have HRDd:=hide (HLP18.out.lw.dd.b.kept hkd (by simp))
          have HALL:=hide (show ∀ W,Kept [] wd W→(fun W=>Kept [] wd W∧(W.cell? ⟨g13,0,none⟩=some (.int .i64 b)∧W.cell? ⟨g13,1,none⟩=some (.int .i64 s)∧W.cell? ⟨g13,2,none⟩=some (.int .i64 l))∧W.cell? (ad.add (j*5))=some (.int .i64 x.s)∧W.cell? ⟨(ad.add (j*5)).block,(ad.add (j*5)).off+1,none⟩=some (.int .i64 x.o)∧W.cell? ⟨(ad.add (j*5)).block,(ad.add (j*5)).off+2,none⟩=some (.int .i64 x.l)∧W.cell? ⟨(ad.add (j*5)).block,(ad.add (j*5)).off+3,none⟩=some (.int .i64 x.v)∧W.cell? ⟨(ad.add (j*5)).block,(ad.add (j*5)).off+4,none⟩=some (.int .i64 x.m)) W from fun W k=>⟨k,by
           have k2:=hkd.trans k (by simp)
           exact⟨(HLP18.out.keep k2).cfg (by simp),k2.cell HU18.out.1 (by simp),k2.cell HU18.out.2.1 (by simp),k2.cell HU18.out.2.2.1 (by simp),k2.cell HU18.out.2.2.2.1 (by simp),k2.cell HU18.out.2.2.2.2 (by simp)⟩⟩)
          have HXD:=hide (show xx<wd.heap.size from Nat.lt_of_lt_of_le HXL.out.1 hkd.size)
          clear hkd
          refine wp_region_noPanic ?_
          refine wp_region_held_drew (S:=fun W=>Kept [] wd W∧(W.cell? ⟨g13,0,none⟩=some (.int .i64 b)∧W.cell? ⟨g13,1,none⟩=some (.int .i64 s)∧W.cell? ⟨g13,2,none⟩=some (.int .i64 l))∧W.cell? (ad.add (j*5))=some (.int .i64 x.s)∧W.cell? ⟨(ad.add (j*5)).block,(ad.add (j*5)).off+1,none⟩=some (.int .i64 x.o)∧W.cell? ⟨(ad.add (j*5)).block,(ad.add (j*5)).off+2,none⟩=some (.int .i64 x.l)∧W.cell? ⟨(ad.add (j*5)).block,(ad.add (j*5)).off+3,none⟩=some (.int .i64 x.v)∧W.cell? ⟨(ad.add (j*5)).block,(ad.add (j*5)).off+4,none⟩=some (.int .i64 x.m)) (by kernel_rfl) (by rw[hwd];exact HALL.out _ (Kept.refl [] wd)) (fun hHeld=> ?_)
          refine tK 0 175 rfl ?_
          try simp only[Act.put,pA,pB,pC]
          refine tK 1 176 rfl ?_
          try simp only[Act.put,pA,pB,pC]
          refine tK 2 177 rfl ?_
          try simp only[Act.put,pA,pB,pC]
          refine tK 3 178 rfl ?_
          try simp only[Act.put,pA,pB,pC]
          refine tK 4 179 rfl ?_
          try simp only[Act.put,pA,pB,pC]
          refine tK 5 180 rfl ?_
          try simp only[Act.put,pA,pB,pC]
          refine next_two (i:=6) (j:=11) (o:=⟨some 181,_,_,_,_,_⟩) (o':=⟨some 27,_,_,_,_,_⟩) (by kernel_rfl) rfl (by rfl) rfl (by rfl) (fun K hK=> ?_) (fun K hK=> ?_)
          ·(try rw[hwd])
           (try rw[hwd]at hHeld)
           go_simp
           (first|refine(rscan_any [xx,pz] G5 rd D5 b s l r q x _ (HRDd.out.kept hHeld.1 (by simp)) (by have:=HD5.out.2;omega) HRF.out (fun y hy=>by have h1:=hHeld.1.size;have h2:=HXD.out;have h3:=HBZ.out.lt;simp at hy;omega) L E err HSC.out).mono ?_|refine(rscan_any [xx] G5 rd D5 b s l r q x _ (HRDd.out.kept hHeld.1 (by simp)) (by have:=HD5.out.2;omega) HRF.out (fun y hy=>by have h1:=hHeld.1.size;have h2:=HXD.out;simp at hy;omega) L E err HSC.out).mono ?_)
           rintro e wL ⟨⟨A26,c26,ys,rfl,hvy,hfy⟩,hkL⟩
           have HVY:=hide hvy
           have HFY:=hide hfy
           have HKL:=hide (show Kept [] wd wL from hHeld.1.trans hkL (by simp))
           (try have HBZ:=hide (hkL.blk HBZ.out (by simp)))
           clear hvy hfy hkL
           refine hK _ _ (by exact HALL.out _ HKL.out) ?_
           have hHeld:=HALL.out _ HKL.out
           clear hK K
           try simp only[Act.put,pA,pB,pC]
           refine tK 7 174 rfl ?_
           try simp only[Act.put,pA,pB,pC]
           refine tK 8 182 rfl ?_
           try simp only[Act.put,pA,pB,pC]
           refine tK 9 183 rfl ?_
           try simp only[Act.put,pA,pB,pC]
           refine tK 10 184 rfl ?_
           try simp only[Act.put,pA,pB,pC]
           refine hO 11 (some 27) rfl fun K hK=> ?_
           (try rw[hwd])
           (try rw[hwd]at hHeld)
           go_simp
           (first|(obtain⟨wZ,hwZ⟩:∃ y,wL.alloc (.cells #[.int .i64 0,.int .i64 0,.int .i64 0,.int .i64 0,.int .i64 0] 24)=y:=⟨_,rfl⟩;rw[hwZ];have HKL:=hide (show Kept [] wd wZ from by {rw[←hwZ];exact hHeld.1.alloc _});have hbz:Blk wZ wL.heap.size 24 #[.int .i64 0,.int .i64 0,.int .i64 0,.int .i64 0,.int .i64 0]:=by {rw[←hwZ];exact Blk.new wL _ _};obtain⟨pz,hpz⟩:∃ y,wL.heap.size=y:=⟨_,rfl⟩;have hkz:Kept [] wL wZ:=by {rw[←hwZ];exact(Kept.refl [] wL).alloc _};have HVY:=hide ((HVY.out.away (S':=[xx,pz]) (fun i hi=>by simp at hi;rcases hi with rfl|rfl;exact .inl (by simp);exact .inr (by omega))).kept hkz (by simp));have HFY:=hide ((HFY.out.away (S':=[xx,pz]) (fun i hi=>by simp at hi;rcases hi with rfl|rfl;exact .inl (by simp);exact .inr (by omega))).kept hkz (by simp));clear hkz;have HPZ:=hide (show wd.heap.size≤pz from by rw[←hpz];exact hHeld.1.size);rw[hpz]at hbz ⊢;have HBZ:=hide hbz;clear hwZ hbz hpz)|(obtain⟨wZ,hwZ⟩:∃ y,wd.alloc (.cells #[.int .i64 0,.int .i64 0,.int .i64 0,.int .i64 0,.int .i64 0] 24)=y:=⟨_,rfl⟩;rw[hwZ];have HKL:=hide (show Kept [] wd wZ from by {rw[←hwZ];exact hHeld.1.alloc _});have hbz:Blk wZ wd.heap.size 24 #[.int .i64 0,.int .i64 0,.int .i64 0,.int .i64 0,.int .i64 0]:=by {rw[←hwZ];exact Blk.new wd _ _};obtain⟨pz,hpz⟩:∃ y,wd.heap.size=y:=⟨_,rfl⟩;have HPZ:=hide (show wd.heap.size≤pz from by rw[←hpz];exact hHeld.1.size);rw[hpz]at hbz ⊢;have HBZ:=hide hbz;clear hwZ hbz hpz))
           refine hK.out _ _ (by exact HALL.out _ HKL.out) (fun hHeld=> ?_)
           clear hK K
           try simp only[Act.put,pA,pB,pC]
           refine tK 12 26 rfl ?_
           try simp only[Act.put,pA,pB,pC]
           refine hO 13 none rfl fun K hK=> ?_
           have fz:=Blk.frozen HBZ.out
           obtain⟨y0,y1,y2,y3,y4⟩:=cell5 HBZ.out
           go_simp
           (first|(have hks:=put5_kept (g:=pz) (S:=[pz]) (.int .i64 E.s) (.int .i64 E.o) (.int .i64 E.l) (.int .i64 E.v) (.int .i64 E.m) (Kept.refl [pz] wZ) (.inl (by simp));obtain⟨wS,hwS⟩:∃ y,(((((wZ.setCell ⟨pz,0,none⟩ (.int .i64 E.s)).setCell ⟨pz,1,none⟩ (.int .i64 E.o)).setCell ⟨pz,2,none⟩ (.int .i64 E.l)).setCell ⟨pz,3,none⟩ (.int .i64 E.v)).setCell ⟨pz,4,none⟩ (.int .i64 E.m))=y:=⟨_,rfl⟩;rw[hwS]at hks;rw[hwS];have HBS:=hide (show Blk wS pz 24 #[.int .i64 E.s,.int .i64 E.o,.int .i64 E.l,.int .i64 E.v,.int .i64 E.m]from by {rw[←hwS];exact put5 _ _ _ _ _ HBZ.out});have HKS:=hide (show Kept [] wd wS from HKL.out.trans hks (fun i hi=>by simp at hi;subst hi;exact .inr HPZ.out));have HVY:=hide (HVY.out.kept hks (by simp));have HFY:=hide (HFY.out.kept hks (by simp));clear hwS hks)|(have hks:=put5_kept (g:=pz) (S:=[pz]) (.int .i64 E.s) (.int .i64 E.o) (.int .i64 E.l) (.int .i64 E.v) (.int .i64 E.m) (Kept.refl [pz] wL) (.inl (by simp));obtain⟨wS,hwS⟩:∃ y,(((((wL.setCell ⟨pz,0,none⟩ (.int .i64 E.s)).setCell ⟨pz,1,none⟩ (.int .i64 E.o)).setCell ⟨pz,2,none⟩ (.int .i64 E.l)).setCell ⟨pz,3,none⟩ (.int .i64 E.v)).setCell ⟨pz,4,none⟩ (.int .i64 E.m))=y:=⟨_,rfl⟩;rw[hwS]at hks;rw[hwS];have HBS:=hide (show Blk wS pz 24 #[.int .i64 E.s,.int .i64 E.o,.int .i64 E.l,.int .i64 E.v,.int .i64 E.m]from by {rw[←hwS];exact put5 _ _ _ _ _ HBZ.out});have HKS:=hide (show Kept [] wd wS from HKL.out.trans hks (fun i hi=>by simp at hi;subst hi;exact .inr HPZ.out));have HVY:=hide (HVY.out.kept hks (by simp));have HFY:=hide (HFY.out.kept hks (by simp));clear hwS hks))
           clear fz y0 y1 y2 y3 y4
           refine hK.out _ _ (by exact HALL.out _ HKS.out) (fun hHeld=> ?_)
           clear hK K
           try simp only[Act.put,pA,pB,pC]
           refine tK 14 28 rfl ?_
           try simp only[Act.put,pA,pB,pC]
           refine wpAnyH_done (by kernel_rfl) ?_ _
           refine NoPanic.normal ?_
           go_wp2_with fail
           go_meet
           exact⟨A26,c26,ys,pz,rfl,rfl,rfl,hide (HVY.out.away (fun i hi=> .inl (by simp at hi;simp [hi]))),hide (HFY.out.away (fun i hi=> .inl (by simp at hi;simp [hi]))),hide ⟨HBS.out,by have h1:=HPZ.out;have h2:=HXD.out;omega⟩,hide (HKD.out.trans HKS.out (by simp))⟩
          ·(try rw[hwd])
           (try rw[hwd]at hHeld)
           go_simp
           (first|(obtain⟨wZ,hwZ⟩:∃ y,wL.alloc (.cells #[.int .i64 0,.int .i64 0,.int .i64 0,.int .i64 0,.int .i64 0] 24)=y:=⟨_,rfl⟩;rw[hwZ];have HKL:=hide (show Kept [] wd wZ from by {rw[←hwZ];exact hHeld.1.alloc _});have hbz:Blk wZ wL.heap.size 24 #[.int .i64 0,.int .i64 0,.int .i64 0,.int .i64 0,.int .i64 0]:=by {rw[←hwZ];exact Blk.new wL _ _};obtain⟨pz,hpz⟩:∃ y,wL.heap.size=y:=⟨_,rfl⟩;have hkz:Kept [] wL wZ:=by {rw[←hwZ];exact(Kept.refl [] wL).alloc _};have HVY:=hide ((HVY.out.away (S':=[xx,pz]) (fun i hi=>by simp at hi;rcases hi with rfl|rfl;exact .inl (by simp);exact .inr (by omega))).kept hkz (by simp));have HFY:=hide ((HFY.out.away (S':=[xx,pz]) (fun i hi=>by simp at hi;rcases hi with rfl|rfl;exact .inl (by simp);exact .inr (by omega))).kept hkz (by simp));clear hkz;have HPZ:=hide (show wd.heap.size≤pz from by rw[←hpz];exact hHeld.1.size);rw[hpz]at hbz ⊢;have HBZ:=hide hbz;clear hwZ hbz hpz)|(obtain⟨wZ,hwZ⟩:∃ y,wd.alloc (.cells #[.int .i64 0,.int .i64 0,.int .i64 0,.int .i64 0,.int .i64 0] 24)=y:=⟨_,rfl⟩;rw[hwZ];have HKL:=hide (show Kept [] wd wZ from by {rw[←hwZ];exact hHeld.1.alloc _});have hbz:Blk wZ wd.heap.size 24 #[.int .i64 0,.int .i64 0,.int .i64 0,.int .i64 0,.int .i64 0]:=by {rw[←hwZ];exact Blk.new wd _ _};obtain⟨pz,hpz⟩:∃ y,wd.heap.size=y:=⟨_,rfl⟩;have HPZ:=hide (show wd.heap.size≤pz from by rw[←hpz];exact hHeld.1.size);rw[hpz]at hbz ⊢;have HBZ:=hide hbz;clear hwZ hbz hpz))
           refine hK _ _ (by exact HALL.out _ HKL.out) ?_
           have hHeld:=HALL.out _ HKL.out
           clear hK K
           try simp only[Act.put,pA,pB,pC]
           refine hO 6 (some 181) rfl fun K hK=> ?_
           (try rw[hwd])
           (try rw[hwd]at hHeld)
           go_simp
           (first|refine(rscan_any [xx,pz] G5 rd D5 b s l r q x _ (HRDd.out.kept hHeld.1 (by simp)) (by have:=HD5.out.2;omega) HRF.out (fun y hy=>by have h1:=hHeld.1.size;have h2:=HXD.out;have h3:=HBZ.out.lt;simp at hy;omega) L E err HSC.out).mono ?_|refine(rscan_any [xx] G5 rd D5 b s l r q x _ (HRDd.out.kept hHeld.1 (by simp)) (by have:=HD5.out.2;omega) HRF.out (fun y hy=>by have h1:=hHeld.1.size;have h2:=HXD.out;simp at hy;omega) L E err HSC.out).mono ?_)
           rintro e wL ⟨⟨A26,c26,ys,rfl,hvy,hfy⟩,hkL⟩
           have HVY:=hide hvy
           have HFY:=hide hfy
           have HKL:=hide (show Kept [] wd wL from hHeld.1.trans hkL (by simp))
           (try have HBZ:=hide (hkL.blk HBZ.out (by simp)))
           clear hvy hfy hkL
           refine hK.out _ _ (by exact HALL.out _ HKL.out) (fun hHeld=> ?_)
           clear hK K
           try simp only[Act.put,pA,pB,pC]
           refine tK 7 174 rfl ?_
           try simp only[Act.put,pA,pB,pC]
           refine tK 8 182 rfl ?_
           try simp only[Act.put,pA,pB,pC]
           refine tK 9 183 rfl ?_
           try simp only[Act.put,pA,pB,pC]
           refine tK 10 184 rfl ?_
           try simp only[Act.put,pA,pB,pC]
           refine tK 12 26 rfl ?_
           try simp only[Act.put,pA,pB,pC]
           refine hO 13 none rfl fun K hK=> ?_
           have fz:=Blk.frozen HBZ.out
           obtain⟨y0,y1,y2,y3,y4⟩:=cell5 HBZ.out
           go_simp
           (first|(have hks:=put5_kept (g:=pz) (S:=[pz]) (.int .i64 E.s) (.int .i64 E.o) (.int .i64 E.l) (.int .i64 E.v) (.int .i64 E.m) (Kept.refl [pz] wZ) (.inl (by simp));obtain⟨wS,hwS⟩:∃ y,(((((wZ.setCell ⟨pz,0,none⟩ (.int .i64 E.s)).setCell ⟨pz,1,none⟩ (.int .i64 E.o)).setCell ⟨pz,2,none⟩ (.int .i64 E.l)).setCell ⟨pz,3,none⟩ (.int .i64 E.v)).setCell ⟨pz,4,none⟩ (.int .i64 E.m))=y:=⟨_,rfl⟩;rw[hwS]at hks;rw[hwS];have HBS:=hide (show Blk wS pz 24 #[.int .i64 E.s,.int .i64 E.o,.int .i64 E.l,.int .i64 E.v,.int .i64 E.m]from by {rw[←hwS];exact put5 _ _ _ _ _ HBZ.out});have HKS:=hide (show Kept [] wd wS from HKL.out.trans hks (fun i hi=>by simp at hi;subst hi;exact .inr HPZ.out));have HVY:=hide (HVY.out.kept hks (by simp));have HFY:=hide (HFY.out.kept hks (by simp));clear hwS hks)|(have hks:=put5_kept (g:=pz) (S:=[pz]) (.int .i64 E.s) (.int .i64 E.o) (.int .i64 E.l) (.int .i64 E.v) (.int .i64 E.m) (Kept.refl [pz] wL) (.inl (by simp));obtain⟨wS,hwS⟩:∃ y,(((((wL.setCell ⟨pz,0,none⟩ (.int .i64 E.s)).setCell ⟨pz,1,none⟩ (.int .i64 E.o)).setCell ⟨pz,2,none⟩ (.int .i64 E.l)).setCell ⟨pz,3,none⟩ (.int .i64 E.v)).setCell ⟨pz,4,none⟩ (.int .i64 E.m))=y:=⟨_,rfl⟩;rw[hwS]at hks;rw[hwS];have HBS:=hide (show Blk wS pz 24 #[.int .i64 E.s,.int .i64 E.o,.int .i64 E.l,.int .i64 E.v,.int .i64 E.m]from by {rw[←hwS];exact put5 _ _ _ _ _ HBZ.out});have HKS:=hide (show Kept [] wd wS from HKL.out.trans hks (fun i hi=>by simp at hi;subst hi;exact .inr HPZ.out));have HVY:=hide (HVY.out.kept hks (by simp));have HFY:=hide (HFY.out.kept hks (by simp));clear hwS hks))
           clear fz y0 y1 y2 y3 y4
           refine hK.out _ _ (by exact HALL.out _ HKS.out) (fun hHeld=> ?_)
           clear hK K
           try simp only[Act.put,pA,pB,pC]
           refine tK 14 28 rfl ?_
           try simp only[Act.put,pA,pB,pC]
           refine wpAnyH_done (by kernel_rfl) ?_ _
           refine NoPanic.normal ?_
           go_wp2_with fail
           go_meet
           exact⟨A26,c26,ys,pz,rfl,rfl,rfl,hide (HVY.out.away (fun i hi=> .inl (by simp at hi;simp [hi]))),hide (HFY.out.away (fun i hi=> .inl (by simp at hi;simp [hi]))),hide ⟨HBS.out,by have h1:=HPZ.out;have h2:=HXD.out;omega⟩,hide (HKD.out.trans HKS.out (by simp))⟩
         case rest=>
          obtain⟨A26,c26,ys,gE,rfl,rfl,rfl,HVY,HFY,HBE,HK20⟩:=hcut
          generalize wc=w20 at*
          have HSC20:=hide (HSC18.out.kept HK20.out (by simp))
          have HLP20:=hide (HLP18.out.keep HK20.out)
          have HKR20:=hide (HKR18.out.trans HK20.out (by simp))
          have HXF:=hide (show xx∉F5∧w16.heap.size≤xx from⟨fun hm=>HXL.out.2 xx hm rfl,by have h1:=HXX.out;have h2:=HKR.out.size;omega⟩)
          clear HSC18 HLP18 HKR18 HXL HXX HU18 HK20 HKR
          have hneE:=fun W=>neq_pos E E W
          have hSd:=(show w20.drew.cell? ⟨gE,0,none⟩=some (.int .i64 E.s)∧w20.drew.cell? ⟨gE,1,none⟩=some (.int .i64 E.o)∧w20.drew.cell? ⟨gE,2,none⟩=some (.int .i64 E.l)∧w20.drew.cell? ⟨gE,3,none⟩=some (.int .i64 E.v)∧w20.drew.cell? ⟨gE,4,none⟩=some (.int .i64 E.m)from cell5 (HBE.out.1.drew))
          go_wp2
          refine wp_region_noPanic ?_
          refine wp_region_held_drew (S:=fun W=>W.cell? ⟨gE,0,none⟩=some (.int .i64 E.s)∧W.cell? ⟨gE,1,none⟩=some (.int .i64 E.o)∧W.cell? ⟨gE,2,none⟩=some (.int .i64 E.l)∧W.cell? ⟨gE,3,none⟩=some (.int .i64 E.v)∧W.cell? ⟨gE,4,none⟩=some (.int .i64 E.m)) (by kernel_rfl) (by exact hSd) (fun hHeld=> ?_)
          refine tK 0 185 rfl ?_
          try simp only[Act.put,pA,pB,pC]
          refine tK 2 187 rfl ?_
          try simp only[Act.put,pA,pB,pC]
          refine hO 1 (some 186) rfl fun K hK=> ?_
          go_simp
          refine(walk_any F5 D5 HD5.out.1 xx _ _ _ _ _ _ _ L E err 99 _ (by rw[ofSeg_snd];exact HSC.out) (by have:=HOK.out.1;omega) (by have:=HOK.out.1;omega) (HSC20.out.kept ((Kept.refl [] w20).drew) (by simp)) ((dsk_of HLP20.out.lw.dd s l r q x.s).kept ((Kept.refl [] w20).drew) (by simp)) (fun y hy=>HLP20.out.lw.dd.a.lt y hy) HXF.out.1 (by rw[ofSeg_snd];exact HSEG.out.1) (by rw[ofSeg_snd];have:=HSEG.out.2;omega)).mono ?_
          rintro e w22 ⟨A1,c1,xs1,rfl,_,hv1,hf1,hsc22,_,hk22⟩
          have HK22:=hide (show Kept [xx] w20 w22 from(((Kept.refl [] w20).drew).mono (by simp)).trans hk22 (fun i hi=> .inl hi))
          have HV1:=hide hv1
          have HF1:=hide hf1
          have HSC22:=hide hsc22
          have HBE22:=hide (HK22.out.blk HBE.out.1 (by simpa using HBE.out.2))
          have HVY22:=hide ((HVY.out.kept HK22.out (by simp)).away (S':=[]) (by simp))
          have HFY22:=hide ((HFY.out.kept HK22.out (by simp)).away (S':=[]) (by simp))
          have HE22:=hide (show(fun W=>W.cell? ⟨gE,0,none⟩=some (.int .i64 E.s)∧W.cell? ⟨gE,1,none⟩=some (.int .i64 E.o)∧W.cell? ⟨gE,2,none⟩=some (.int .i64 E.l)∧W.cell? ⟨gE,3,none⟩=some (.int .i64 E.v)∧W.cell? ⟨gE,4,none⟩=some (.int .i64 E.m)) w22 from cell5 HBE22.out)
          clear hv1 hf1 hsc22 hk22
          refine hK.out _ _ (by exact HE22.out) (fun hHeld=> ?_)
          clear hK K
          try simp only[Act.put,pA,pB,pC]
          refine hO 3 (some 188) rfl fun K hK=> ?_
          go_simp
          refine(same_any L A1 A26 _ c1 c26 xs1 ys w22 rfl (by have:=HOK.out.1;omega) HV1.out HF1.out HVY22.out HFY22.out HOK.out.2).mono ?_
          rintro e w23 ⟨rfl,hk23⟩
          have HK23:=hide hk23
          have HSC23:=hide (HSC22.out.kept hk23 (by simp))
          have HBE23:=hide (hk23.blk HBE22.out (by simp))
          have HE23:=hide (show(fun W=>W.cell? ⟨gE,0,none⟩=some (.int .i64 E.s)∧W.cell? ⟨gE,1,none⟩=some (.int .i64 E.o)∧W.cell? ⟨gE,2,none⟩=some (.int .i64 E.l)∧W.cell? ⟨gE,3,none⟩=some (.int .i64 E.v)∧W.cell? ⟨gE,4,none⟩=some (.int .i64 E.m)) w23 from cell5 HBE23.out)
          clear hk23
          refine hK.out _ _ (by exact HE23.out) (fun hHeld=> ?_)
          clear hK K
          try simp only[Act.put,pA,pB,pC]
          refine tK 4 189 rfl ?_
          try simp only[Act.put,pA,pB,pC]
          refine tK 5 190 rfl ?_
          try simp only[Act.put,pA,pB,pC]
          refine tK 6 191 rfl ?_
          try simp only[Act.put,pA,pB,pC]
          refine tK 8 193 rfl ?_
          try simp only[Act.put,pA,pB,pC]
          refine hO 7 (some 192) rfl fun K hK=> ?_
          go_simp
          refine(end_any xx _ _ _ _ _ _ _ _ HSC23.out).mono ?_
          rintro e w24 ⟨rfl,hk24⟩
          unfold Ps.val
          have HK24:=hide hk24
          have HSC24:=hide (HSC23.out.kept hk24 (by simp))
          have HE24:=hide (show(fun W=>W.cell? ⟨gE,0,none⟩=some (.int .i64 E.s)∧W.cell? ⟨gE,1,none⟩=some (.int .i64 E.o)∧W.cell? ⟨gE,2,none⟩=some (.int .i64 E.l)∧W.cell? ⟨gE,3,none⟩=some (.int .i64 E.v)∧W.cell? ⟨gE,4,none⟩=some (.int .i64 E.m)) w24 from cell5 (hk24.blk HBE23.out (by simp)))
          clear hk24
          refine hK.out _ _ (by exact HE24.out) (fun hHeld=> ?_)
          clear hK K
          try simp only[Act.put,pA,pB,pC]
          refine tK 9 194 rfl ?_
          try simp only[Act.put,pA,pB,pC]
          refine tK 10 195 rfl ?_
          try simp only[Act.put,pA,pB,pC]
          refine tK 11 196 rfl ?_
          try simp only[Act.put,pA,pB,pC]
          refine tK 12 197 rfl ?_
          try simp only[Act.put,pA,pB,pC]
          refine tK 14 199 rfl ?_
          try simp only[Act.put,pA,pB,pC]
          refine hO 13 (some 198) rfl fun K hK=> ?_
          go_simp
          refine(err_any xx _ _ _ _ _ _ _ _ HSC24.out).mono ?_
          rintro e w25 ⟨rfl,rfl⟩
          refine hK.out _ _ (by exact HE24.out) (fun hHeld=> ?_)
          clear hK K
          try simp only[Act.put,pA,pB,pC]
          refine tK 15 200 rfl ?_
          try simp only[Act.put,pA,pB,pC]
          refine tK 16 201 rfl ?_
          try simp only[Act.put,pA,pB,pC]
          refine wpAnyH_done (by kernel_rfl) ?_ _
          refine NoPanic.normal ?_
          have HKN:=hide (show Kept [] w16 w24 from((HKR20.out.trans HK22.out (fun i hi=>by simp at hi;subst hi;exact .inr HXF.out.2)).trans HK23.out (by simp)).trans HK24.out (by simp))
          clear hHeld HK22 HK23 HK24 HSC20 HSC22 HSC23 HSC24 HBE HBE22 HBE23 HE22 HE23 HE24 HV1 HF1 HVY HFY HVY22 HFY22 HLP20 HKR20 HXF hneE hSd
          go_wp2
          go_roundw
          case rel=>first|exact⟨j+1,by omega,by go_num,HKN⟩|((repeat apply Exists.intro);exact⟨⟨j+1,by omega,by go_num,HKN⟩,rfl⟩)
          case measure=>simp [intOf];omega
        ·obtain rfl:j=3:=by omega
         have p0:wr.cell? ⟨g18,0,none⟩=some (.int .i64 a0):=(HLPr.out.pos (p:=⟨a0,0,1+a2,a3,1+a4⟩) (by simp)).1
         obtain⟨⟨L,E,err⟩,hsc⟩:∃ y,scanOf D5 (geom.segAt s l r q a0) l ⟨a0,0,0,0,0⟩ true=y:=⟨_,rfl⟩
         have hsg:=seg_bd HLPr.out.lw.geo hb0
         have hok:=scan_ok HD5.out.1 hsc
         have hcf:=HCF.out
         have HOK:=hide (show L.length≤27∧∀ y∈L,y.2.its.length≤6∧y.2.bks.length≤6 from⟨by have:=hok.1;omega,hok.2⟩)
         have HSEG:=hide hsg
         have HSC:=sealed hsc
         clear hsc hok hsg hcf
         go_wp2_with fail
         refine(segment_any d g b s l r q a0 wr HLPr.out.lw.geo hb0).mono ?_
         rintro e w17 ⟨xx,rfl,hxx,hsc17,hk17⟩
         have HXX:=hide (show wr.heap.size≤xx from hxx)
         have HSC17:=hide hsc17
         have HK17:=hide hk17
         have p1:=hk17.cell p0 (by simp)
         have HU17:=hide p1
         clear hsc17 hk17 hxx p0 p1
         have hneX:=fun W=>neq_pos ⟨a0,0,0,0,0⟩ ⟨a0,0,0,0,0⟩ W
         dsimp only at hneX
         go_wp2
         refine wp_region_noPanic ?_
         refine wp_region_held_drew (S:=fun W=>Kept [] w17 W∧W.cell? ⟨g18,0,none⟩=some (.int .i64 a0)) (by kernel_rfl) (by exact⟨(Kept.refl _ w17).drew,HU17.out⟩) (fun hHeld=> ?_)
         refine tK 0 207 rfl ?_
         try simp only[Act.put,pA,pB,pC]
         refine tK 1 208 rfl ?_
         try simp only[Act.put,pA,pB,pC]
         refine tK 2 209 rfl ?_
         try simp only[Act.put,pA,pB,pC]
         refine tK 3 210 rfl ?_
         try simp only[Act.put,pA,pB,pC]
         refine tK 5 212 rfl ?_
         try simp only[Act.put,pA,pB,pC]
         refine tK 6 213 rfl ?_
         try simp only[Act.put,pA,pB,pC]
         refine tK 7 214 rfl ?_
         try simp only[Act.put,pA,pB,pC]
         refine hO 4 (some 211) rfl fun K hK=> ?_
         go_simp
         refine(end_any xx _ _ _ _ _ _ _ _ (HSC17.out.kept hHeld.1 (by simp))).mono ?_
         rintro e w18 ⟨rfl,hk18⟩
         unfold Ps.val
         dsimp only
         have HX18:=hide (show(fun W=>Kept [] w17 W∧W.cell? ⟨g18,0,none⟩=some (.int .i64 a0)) w18 from⟨hHeld.1.trans hk18 (by simp),hk18.cell hHeld.2 (by simp)⟩)
         clear hk18
         refine hK.out _ _ (by exact HX18.out) (fun hHeld=> ?_)
         clear hK K
         try simp only[Act.put,pA,pB,pC]
         refine tK 8 215 rfl ?_
         try simp only[Act.put,pA,pB,pC]
         refine tK 9 216 rfl ?_
         try simp only[Act.put,pA,pB,pC]
         refine wpAnyH_done (by kernel_rfl) ?_ _
         refine NoPanic.normal ?_
         have HK18:=hide HX18.out.1
         have HSC18:=hide (HSC17.out.kept HK18.out (by simp))
         have HLP18:=hide (HLPr.out.keep (HK17.out.trans HK18.out (by simp)))
         have HKR18:=hide (HKR.out.trans (HK17.out.trans HK18.out (by simp)) (by simp))
         have HXF:=hide (show xx<w18.heap.size∧xx∉F5∧w16.heap.size≤xx from⟨HSC18.out.lt,fun hm=>by have h1:=HLPr.out.lw.dd.a.lt xx hm;have h2:=HXX.out;omega,by have h1:=HXX.out;have h2:=HKR.out.size;omega⟩)
         clear HSC17 HK17 HX18 HLPr HK18 HU17 hneX hHeld HKR HXX
         obtain⟨c0,c1,c2⟩:=HLP18.out.cfg (y:=g13) (b':=b) (s':=s) (l':=l) (by simp)
         have p0:w18.cell? ⟨g18,0,none⟩=some (.int .i64 a0):=(HLP18.out.pos (p:=⟨a0,0,1+a2,a3,1+a4⟩) (by simp)).1
         go_wp2_with fail
         refine(rsegment_any [xx] G5 rd D5 b s l r q a0 w18 HLP18.out.lw.dd.b (by have:=HD5.out.2;omega) HRF.out hb0 (fun y hy=>by have h1:=HXF.out.1;simp at hy;omega) L E err HSC.out).mono ?_
         rintro e w19 ⟨⟨A26,c26,ys,rfl,hvy,hfy⟩,hk19⟩
         obtain⟨gE,hgE⟩:∃ y,w19.heap.size=y:=⟨_,rfl⟩
         obtain⟨w20,hw20⟩:∃ y,w19.alloc (.cells #[.int .i64 E.s,.int .i64 E.o,.int .i64 E.l,.int .i64 E.v,.int .i64 E.m] 24)=y:=⟨_,rfl⟩
         have k20:Kept [] w19 w20:=by rw[←hw20];exact(Kept.refl [] w19).alloc _
         have m20:Blk w20 gE 24 #[.int .i64 E.s,.int .i64 E.o,.int .i64 E.l,.int .i64 E.v,.int .i64 E.m]:=by rw[←hw20,←hgE];exact Blk.new w19 _ _
         have HVY:=hide (hvy.kept k20 (by simp))
         have HFY:=hide (hfy.kept k20 (by simp))
         have HBE:=hide (show Blk w20 gE 24 #[.int .i64 E.s,.int .i64 E.o,.int .i64 E.l,.int .i64 E.v,.int .i64 E.m]∧gE≠xx from⟨m20,by have h1:=HXF.out.1;have h2:=hk19.size;omega⟩)
         have HK20:=hide (hk19.trans k20 (by simp))
         have HSC20:=hide (HSC18.out.kept HK20.out (by simp))
         have HLP20:=hide (HLP18.out.keep HK20.out)
         have HKR20:=hide (HKR18.out.trans HK20.out (by simp))
         clear hvy hfy k20 m20 hk19 c0 c1 c2 p0 HSC18 HLP18 HKR18 HK20
         go_wp2
         clear hw20 hgE
         have hneE:=fun W=>eql_pos E E W
         have hSd:=(show w20.drew.cell? ⟨gE,0,none⟩=some (.int .i64 E.s)∧w20.drew.cell? ⟨gE,1,none⟩=some (.int .i64 E.o)∧w20.drew.cell? ⟨gE,2,none⟩=some (.int .i64 E.l)∧w20.drew.cell? ⟨gE,3,none⟩=some (.int .i64 E.v)∧w20.drew.cell? ⟨gE,4,none⟩=some (.int .i64 E.m)from cell5 (HBE.out.1.drew))
         refine wp_region_noPanic ?_
         refine wp_region_held_drew (S:=fun W=>W.cell? ⟨gE,0,none⟩=some (.int .i64 E.s)∧W.cell? ⟨gE,1,none⟩=some (.int .i64 E.o)∧W.cell? ⟨gE,2,none⟩=some (.int .i64 E.l)∧W.cell? ⟨gE,3,none⟩=some (.int .i64 E.v)∧W.cell? ⟨gE,4,none⟩=some (.int .i64 E.m)) (by kernel_rfl) (by exact hSd) (fun hHeld=> ?_)
         refine tK 0 226 rfl ?_
         try simp only[Act.put,pA,pB,pC]
         refine tK 2 228 rfl ?_
         try simp only[Act.put,pA,pB,pC]
         refine hO 1 (some 227) rfl fun K hK=> ?_
         go_simp
         refine(walk_any F5 D5 HD5.out.1 xx _ _ _ _ _ _ _ L E err 99 _ HSC.out (by have:=HOK.out.1;omega) (by have:=HOK.out.1;omega) (HSC20.out.kept ((Kept.refl [] w20).drew) (by simp)) ((HLP20.out.lw.dd.dsk l).kept ((Kept.refl [] w20).drew) (by simp)) (fun y hy=>HLP20.out.lw.dd.a.lt y hy) HXF.out.2.1 (by have:=HSEG.out;omega) (by have:=HCF.out;omega)).mono ?_
         rintro e w22 ⟨A1,c1,xs1,rfl,_,hv1,hf1,hsc22,_,hk22⟩
         have HK22:=hide (show Kept [xx] w20 w22 from(((Kept.refl [] w20).drew).mono (by simp)).trans hk22 (fun i hi=> .inl hi))
         have HV1:=hide hv1
         have HF1:=hide hf1
         have HSC22:=hide hsc22
         have HBE22:=hide (HK22.out.blk HBE.out.1 (by simpa using HBE.out.2))
         have HVY22:=hide ((HVY.out.kept HK22.out (by simp)).away (S':=[]) (by simp))
         have HFY22:=hide ((HFY.out.kept HK22.out (by simp)).away (S':=[]) (by simp))
         have HE22:=hide (show(fun W=>W.cell? ⟨gE,0,none⟩=some (.int .i64 E.s)∧W.cell? ⟨gE,1,none⟩=some (.int .i64 E.o)∧W.cell? ⟨gE,2,none⟩=some (.int .i64 E.l)∧W.cell? ⟨gE,3,none⟩=some (.int .i64 E.v)∧W.cell? ⟨gE,4,none⟩=some (.int .i64 E.m)) w22 from cell5 HBE22.out)
         clear hv1 hf1 hsc22 hk22
         refine hK.out _ _ (by exact HE22.out) (fun hHeld=> ?_)
         clear hK K
         try simp only[Act.put,pA,pB,pC]
         refine hO 3 (some 229) rfl fun K hK=> ?_
         go_simp
         refine(same_any L A1 A26 _ c1 c26 xs1 ys w22 rfl (by have:=HOK.out.1;omega) HV1.out HF1.out HVY22.out HFY22.out HOK.out.2).mono ?_
         rintro e w23 ⟨rfl,hk23⟩
         have HK23:=hide hk23
         have HSC23:=hide (HSC22.out.kept hk23 (by simp))
         have HBE23:=hide (hk23.blk HBE22.out (by simp))
         have HE23:=hide (show(fun W=>W.cell? ⟨gE,0,none⟩=some (.int .i64 E.s)∧W.cell? ⟨gE,1,none⟩=some (.int .i64 E.o)∧W.cell? ⟨gE,2,none⟩=some (.int .i64 E.l)∧W.cell? ⟨gE,3,none⟩=some (.int .i64 E.v)∧W.cell? ⟨gE,4,none⟩=some (.int .i64 E.m)) w23 from cell5 HBE23.out)
         clear hk23
         refine hK.out _ _ (by exact HE23.out) (fun hHeld=> ?_)
         clear hK K
         try simp only[Act.put,pA,pB,pC]
         refine tK 4 230 rfl ?_
         try simp only[Act.put,pA,pB,pC]
         refine tK 5 231 rfl ?_
         try simp only[Act.put,pA,pB,pC]
         refine tK 7 233 rfl ?_
         try simp only[Act.put,pA,pB,pC]
         refine hO 6 (some 232) rfl fun K hK=> ?_
         go_simp
         refine(end_any xx _ _ _ _ _ _ _ _ HSC23.out).mono ?_
         rintro e w24 ⟨rfl,hk24⟩
         unfold Ps.val
         have HK24:=hide hk24
         have HSC24:=hide (HSC23.out.kept hk24 (by simp))
         have HE24:=hide (show(fun W=>W.cell? ⟨gE,0,none⟩=some (.int .i64 E.s)∧W.cell? ⟨gE,1,none⟩=some (.int .i64 E.o)∧W.cell? ⟨gE,2,none⟩=some (.int .i64 E.l)∧W.cell? ⟨gE,3,none⟩=some (.int .i64 E.v)∧W.cell? ⟨gE,4,none⟩=some (.int .i64 E.m)) w24 from cell5 (hk24.blk HBE23.out (by simp)))
         clear hk24
         refine hK.out _ _ (by exact HE24.out) (fun hHeld=> ?_)
         clear hK K
         try simp only[Act.put,pA,pB,pC]
         refine tK 8 234 rfl ?_
         try simp only[Act.put,pA,pB,pC]
         refine tK 9 235 rfl ?_
         try simp only[Act.put,pA,pB,pC]
         refine tK 10 236 rfl ?_
         try simp only[Act.put,pA,pB,pC]
         refine tK 11 237 rfl ?_
         try simp only[Act.put,pA,pB,pC]
         refine tK 13 239 rfl ?_
         try simp only[Act.put,pA,pB,pC]
         refine hO 12 (some 238) rfl fun K hK=> ?_
         go_simp
         refine(err_any xx _ _ _ _ _ _ _ _ HSC24.out).mono ?_
         rintro e w25 ⟨rfl,rfl⟩
         refine hK.out _ _ (by exact HE24.out) (fun hHeld=> ?_)
         clear hK K
         try simp only[Act.put,pA,pB,pC]
         refine tK 14 240 rfl ?_
         try simp only[Act.put,pA,pB,pC]
         refine tK 15 241 rfl ?_
         try simp only[Act.put,pA,pB,pC]
         refine tK 16 242 rfl ?_
         try simp only[Act.put,pA,pB,pC]
         refine hO 17 (some 243) rfl fun K hK=> ?_
         go_simp
         refine(awake_any _).mono ?_
         rintro e w26 ⟨rfl,hk26⟩
         have HK26:=hide hk26
         have HBE24:=hide (show(fun W=>W.cell? ⟨gE,0,none⟩=some (.int .i64 E.s)∧W.cell? ⟨gE,1,none⟩=some (.int .i64 E.o)∧W.cell? ⟨gE,2,none⟩=some (.int .i64 E.l)∧W.cell? ⟨gE,3,none⟩=some (.int .i64 E.v)∧W.cell? ⟨gE,4,none⟩=some (.int .i64 E.m)) w26 from⟨hk26.cell HE24.out.1 (by simp),hk26.cell HE24.out.2.1 (by simp),hk26.cell HE24.out.2.2.1 (by simp),hk26.cell HE24.out.2.2.2.1 (by simp),hk26.cell HE24.out.2.2.2.2 (by simp)⟩)
         clear hk26
         refine hK.out _ _ (by exact HBE24.out) (fun hHeld=> ?_)
         clear hK K
         try simp only[Act.put,pA,pB,pC]
         refine tK 18 244 rfl ?_
         try simp only[Act.put,pA,pB,pC]
         refine tK 19 12 rfl ?_
         try simp only[Act.put,pA,pB,pC]
         refine wpAnyH_done (by kernel_rfl) ?_ _
         refine NoPanic.normal ?_
         have HKN:=hide (show Kept [] w w26 from HLP16.out.lw.kept.trans ((((HKR20.out.trans HK22.out (fun i hi=>by simp at hi;subst hi;exact .inr HXF.out.2.2)).trans HK23.out (by simp)).trans HK24.out (by simp)).trans HK26.out (by simp)) (by simp))
         clear hHeld HK22 HK23 HK24 HSC20 HSC22 HSC23 HSC24 HBE HBE22 HBE23 HE22 HE23 HE24 HV1 HF1 HVY HFY HVY22 HFY22 HLP20 HKR20 HXF hneE hSd HBE24 HK26
         go_wp2
         go_ret
         exact⟨rfl,HKN.out⟩
 ·clear HFW
  go_wp2_with fail
  refine(awake_any _).mono ?_
  rintro e w3 ⟨rfl,hk3⟩
  have HKZ:=hide (HK.out.trans hk3 (by simp))
  clear hk3
  go_wp2
  go_ret
  exact⟨rfl,HKZ.out⟩
end Go.Proofs.YtjkmahmoclobmaaGreat.sc
