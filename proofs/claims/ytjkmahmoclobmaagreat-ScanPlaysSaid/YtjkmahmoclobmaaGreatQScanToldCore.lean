import Derived.Test.YtjkmahmoclobmaaGreatQScanNextCore
import Derived.Test.YtjkmahmoclobmaaGreatQGeomWay
import Derived.RangeFuncNested
import Derived.RangeFuncBound
import Derived.RangeFuncCalls
import Derived.RangeFuncLeaves
import Derived.Shelf.Abstract
import Derived.Shelf.RegionOpen
import Derived.WalkKit
import Derived.OwnWalkIn
import Derived.TacticsInMore
import Derived.LoopNIn
import Derived.LoopIn
import Derived.Test.YtjkmahmoclobmaaGreatQRecordCore
set_option linter.unusedSimpArgs false
set_option maxRecDepth 100000
set_option maxHeartbeats 4000000
namespace Go.Proofs.YtjkmahmoclobmaaGreat.sc
open Go.RowKit mem base disk geom
theorem field_l (a c z:Int)(w:World):(Instr.field 29 (.agg #[.int .i64 a,.int .i64 c,.int .i64 z]) 2).run Tryz.prog w= .ok (.int .i64 z) w:=by kernel_rfl
def ofSeg (dv:Option Addr)(s l r q a:Int):Option Addr×Int×Int:=if 0≤a∧a≤s-1 then(dv,segAt s l r q a,l)else(none,0,0)
theorem seg_bd {w:World}{p:Nat}{b s l r q a:Int}(h:GAt w p b s l r q)(ha:0≤a∧a≤s-1):0≤segAt s l r q a∧segAt s l r q a≤2500:=by
 have hb:=h.bounds
 have hs:=h.ok
 unfold Ok at hs
 have:=mul_le (i:=a) (s:=s) (l:=l) ha.1 (by omega) (by omega) (by omega) (by omega)
 unfold segAt
 rw[if_pos ha]
 omega

theorem of_any (dv:Option Addr)(p:Nat)(b s l r q a:Int)(w:World)(h:GAt w p b s l r q):
  Calls Tryz.prog 78 #[.pointer dv,.pointer (some ⟨p,0,none⟩),.int .i64 a] w fun e w'=>e= .returned (.agg #[.pointer (ofSeg dv s l r q a).1,.int .i64 (ofSeg dv s l r q a).2.1,.int .i64 (ofSeg dv s l r q a).2.2])∧Kept [] w w':=by
 have hk0:=(Kept.refl [] w).alloc (.cells #[.pointer none,.int .i64 0,.int .i64 0] 143)
 have hb0:=Blk.new w 143 #[.pointer none,.int .i64 0,.int .i64 0]
 obtain⟨g,hg⟩:∃ g,w.heap.size=g:=⟨_,rfl⟩
 rw[hg]at hb0
 have HG:=hide (Nat.le_of_eq hg)
 have H:=hide (h.kept hk0)
 have HK0:=hide hk0
 have HB0:=hide hb0
 by_cases ha:0≤a∧a≤s-1
 ·have hbd:=seg_bd h ha
  have HE:Hid (ofSeg dv s l r q a=(dv,segAt s l r q a,l)):=hide (if_pos ha)
  clear h hk0 hb0 ha
  go_enter Tryz.func78,Tryz.ntmps78
  go_wp2_with fail
  refine(seg_any p b s l r q a _ H.out).mono ?_
  rintro e w1 ⟨rfl,hk1⟩
  have H1:=hide (H.out.kept hk1)
  have HK1:=hide (HK0.out.trans hk1 (by simp))
  have HB1:=hide (hk1.blk HB0.out (by simp))
  clear hk1 H HK0 HB0
  generalize segAt s l r q a=y at hbd HE ⊢
  have hy1:=hbd.1
  have hy2:=hbd.2
  go_wp2_with fail
  refine(config_at p b s l r q _ H1.out).mono ?_
  rintro e w2 ⟨rfl,hk2⟩
  have HK2:=hide (HK1.out.trans hk2 (by simp))
  have HB2:=hide (hk2.blk HB1.out (by simp))
  have hfl:=field_l b s l w2
  have c0:=HB2.out.cell 0
  have c1:=HB2.out.cell 1
  have c2:=HB2.out.cell 2
  have f0:=HB2.out.frozen 0
  have f1:=HB2.out.frozen 1
  have f2:=HB2.out.frozen 2
  have HBW:=hide (((HB2.out.set_ 0 (.pointer dv)).set_ 1 (.int .i64 y)).set_ 2 (.int .i64 l))
  have HKW:=hide (((HK2.out.set_ (b:=g) (.inr HG.out) 0 (.pointer dv)).set_ (b:=g) (.inr HG.out) 1 (.int .i64 y)).set_ (b:=g) (.inr HG.out) 2 (.int .i64 l))
  clear hk2
  go_wp2
  generalize (((w2.setCell ⟨g,0,none⟩ (.pointer dv)).setCell ⟨g,1,none⟩ (.int .i64 y)).setCell ⟨g,2,none⟩ (.int .i64 l))=W at HBW HKW ⊢
  have t0:W.cell? ⟨g,0,none⟩=some (.pointer dv):=HBW.out.cell 0
  have t1:W.cell? ⟨g,1,none⟩=some (.int .i64 y):=HBW.out.cell 1
  have t2:W.cell? ⟨g,2,none⟩=some (.int .i64 l):=HBW.out.cell 2
  refine bodyPost_ret (v:= .agg #[.pointer dv,.int .i64 y,.int .i64 l]) ?_ rfl ⟨by rw[HE.out],HKW.out⟩
  simp [results,Tryz.results78,go_sem,t0,t1,t2]
 ·have HE:Hid (ofSeg dv s l r q a=(none,0,0)):=hide (if_neg ha)
  have HY:Hid (segAt s l r q a= -1):=hide (if_neg ha)
  clear h hk0 hb0 ha
  go_enter Tryz.func78,Tryz.ntmps78
  go_wp2_with fail
  refine(seg_any p b s l r q a _ H.out).mono ?_
  rintro e w1 ⟨rfl,hk1⟩
  rw[HY.out]
  have HK1:=hide (HK0.out.trans hk1 (by simp))
  have HB1:=hide (hk1.blk HB0.out (by simp))
  have c0:=HB1.out.cell 0
  have c1:=HB1.out.cell 1
  have c2:=HB1.out.cell 2
  have f0:=HB1.out.frozen 0
  have f1:=HB1.out.frozen 1
  have f2:=HB1.out.frozen 2
  have HBW:=hide (((HB1.out.set_ 0 (.pointer none)).set_ 1 (.int .i64 0)).set_ 2 (.int .i64 0))
  have HKW:=hide (((HK1.out.set_ (b:=g) (.inr HG.out) 0 (.pointer none)).set_ (b:=g) (.inr HG.out) 1 (.int .i64 0)).set_ (b:=g) (.inr HG.out) 2 (.int .i64 0))
  clear hk1 H HK0 HB0
  go_wp2
  generalize (((w1.setCell ⟨g,0,none⟩ (.pointer none)).setCell ⟨g,1,none⟩ (.int .i64 0)).setCell ⟨g,2,none⟩ (.int .i64 0))=W at HBW HKW ⊢
  have t0:W.cell? ⟨g,0,none⟩=some (.pointer none):=HBW.out.cell 0
  have t1:W.cell? ⟨g,1,none⟩=some (.int .i64 0):=HBW.out.cell 1
  have t2:W.cell? ⟨g,2,none⟩=some (.int .i64 0):=HBW.out.cell 2
  refine bodyPost_ret (v:= .agg #[.pointer none,.int .i64 0,.int .i64 0]) ?_ rfl ⟨by rw[HE.out],HKW.out⟩
  simp [results,Tryz.results78,go_sem,t0,t1,t2]

theorem nwheld {w0 W W':World}{a1 a2 a3 a4 a5:Addr}{v1 v2 v3 v4 v5:Value}(h:Kept [] w0 W∧W.cell? a1=some v1∧W.cell? a2=some v2∧W.cell? a3=some v3∧W.cell? a4=some v4∧W.cell? a5=some v5)(hk:Kept [] W W'):
  Kept [] w0 W'∧W'.cell? a1=some v1∧W'.cell? a2=some v2∧W'.cell? a3=some v3∧W'.cell? a4=some v4∧W'.cell? a5=some v5:=by
 obtain⟨h0,h1,h2,h3,h4,h5⟩:=h
 exact⟨h0.trans hk (by simp),hk.cell h1 (by simp),hk.cell h2 (by simp),hk.cell h3 (by simp),hk.cell h4 (by simp),hk.cell h5 (by simp)⟩

theorem new_any (d:Nat)(gp:Nat)(b s l r q:Int)(p:Ps)(w:World)(h:GAt w gp b s l r q):
  Calls Tryz.prog 20 #[.pointer (some ⟨d,0,none⟩),.pointer (some ⟨gp,0,none⟩),p.val] w fun e w'=>∃ x,e= .returned (.pointer (some ⟨x,0,none⟩))∧w.heap.size≤x∧
   ScAt w' x (ofSeg (some ⟨d,0,none⟩) s l r q p.s).1 (ofSeg (some ⟨d,0,none⟩) s l r q p.s).2.1 (ofSeg (some ⟨d,0,none⟩) s l r q p.s).2.2 p false p 0∧Kept [] w w':=by
 have hk0:=(Kept.refl [] w).alloc (.cells #[.int .i64 p.s,.int .i64 p.o,.int .i64 p.l,.int .i64 p.v,.int .i64 p.m] 24)
 have hb0:=Blk.new w 24 #[.int .i64 p.s,.int .i64 p.o,.int .i64 p.l,.int .i64 p.v,.int .i64 p.m]
 obtain⟨g,hg⟩:∃ g,w.heap.size=g:=⟨_,rfl⟩
 rw[hg]at hb0
 have HG:=hide (Nat.le_of_eq hg)
 obtain⟨w0,hw0⟩:∃ w0,w.alloc (.cells #[.int .i64 p.s,.int .i64 p.o,.int .i64 p.l,.int .i64 p.v,.int .i64 p.m] 24)=w0:=⟨_,rfl⟩
 have H:=hide (h.kept hk0)
 rw[hw0]at hb0 hk0 H
 have HB0:=hide hb0
 have HK0:=hide hk0
 have HST:=hide (show Kept [] w0 w0.drew∧w0.drew.cell? ⟨g,0,none⟩=some (.int .i64 p.s)∧w0.drew.cell? ⟨g,1,none⟩=some (.int .i64 p.o)∧w0.drew.cell? ⟨g,2,none⟩=some (.int .i64 p.l)∧w0.drew.cell? ⟨g,3,none⟩=some (.int .i64 p.v)∧w0.drew.cell? ⟨g,4,none⟩=some (.int .i64 p.m)from⟨(Kept.refl [] w0).drew,hb0.cell 0,hb0.cell 1,hb0.cell 2,hb0.cell 3,hb0.cell 4⟩)
 clear h hk0 hb0
 obtain⟨⟨dv,a,z⟩,ho⟩:∃ y,ofSeg (some ⟨d,0,none⟩) s l r q p.s=y:=⟨_,rfl⟩
 rw[ho]
 have HO:=sealed ho
 clear ho
 unfold Ps.val
 go_enter Tryz.func20,Tryz.ntmps20
 go_wp2
 refine wp_region_noPanic ?_
 refine wp_region_held_drew (S:=fun W=>Kept [] w0 W∧W.cell? ⟨g,0,none⟩=some (.int .i64 p.s)∧W.cell? ⟨g,1,none⟩=some (.int .i64 p.o)∧W.cell? ⟨g,2,none⟩=some (.int .i64 p.l)∧W.cell? ⟨g,3,none⟩=some (.int .i64 p.v)∧W.cell? ⟨g,4,none⟩=some (.int .i64 p.m)) (by kernel_rfl) (by exact HST.out) (fun hHeld=> ?_)
 refine tK 0 13 rfl ?_
 try simp only[Act.put,pA,pB,pC]
 refine tK 1 14 rfl ?_
 try simp only[Act.put,pA,pB,pC]
 refine tK 2 15 rfl ?_
 try simp only[Act.put,pA,pB,pC]
 refine tK 3 16 rfl ?_
 try simp only[Act.put,pA,pB,pC]
 refine tK 5 18 rfl ?_
 try simp only[Act.put,pA,pB,pC]
 refine tK 6 19 rfl ?_
 try simp only[Act.put,pA,pB,pC]
 refine hO 4 (some 17) rfl fun K hK=> ?_
 go_simp
 refine(of_any (some ⟨d,0,none⟩) gp b s l r q p.s _ (H.out.kept hHeld.1)).mono ?_
 rintro e w1 ⟨rfl,hk1⟩
 rw[HO.out]
 have HH1:=hide (nwheld hHeld hk1)
 refine hK.out _ _ (by exact HH1.out) (fun hHeld=> ?_)
 clear hK K
 try simp only[Act.put,pA,pB,pC]
 refine tK 7 20 rfl ?_
 try simp only[Act.put,pA,pB,pC]
 refine hO 8 (some 21) rfl fun K hK=> ?_
 go_simp
 have HH2:=hide (nwheld hHeld ((Kept.refl [] w1).alloc (.cells #[.pointer dv,.int .i64 a,.int .i64 z,.int .i64 p.s,.int .i64 p.o,.int .i64 p.l,.int .i64 p.v,.int .i64 p.m,.bool false,.int .i64 p.s,.int .i64 p.o,.int .i64 p.l,.int .i64 p.v,.int .i64 p.m,.int .i64 0] 146)))
 refine hK.out _ _ (by exact HH2.out) (fun hHeld=> ?_)
 clear hK K
 try simp only[Act.put,pA,pB,pC]
 refine tK 9 6 rfl ?_
 try simp only[Act.put,pA,pB,pC]
 refine wpAnyH_done (by kernel_rfl) ?_ _
 refine NoPanic.normal ?_
 go_wp2
 go_ret
 exact⟨w1.heap.size,rfl,by have h1:=HH1.out.1.size;have h2:=HK0.out.size;omega,Blk.new w1 _ _,HK0.out.trans HH2.out.1 (by simp)⟩

theorem new_nil (P:Value)(p:Ps)(w:World):
  Calls Tryz.prog 20 #[.pointer none,P,p.val] w fun e w'=>e= .returned (.pointer none)∧Kept [] w w':=by
 have HK:=hide ((Kept.refl [] w).alloc (.cells #[.int .i64 p.s,.int .i64 p.o,.int .i64 p.l,.int .i64 p.v,.int .i64 p.m] 24))
 unfold Ps.val
 go_enter Tryz.func20,Tryz.ntmps20
 go_wp2
 go_ret
 exact⟨rfl,HK.out⟩

theorem end_any (x:Nat)(dv:Option Addr)(a z:Int)(p:Ps)(hb:Bool)(e:Ps)(er:Int)(w:World)(h:ScAt w x dv a z p hb e er):
  Calls Tryz.prog 21 #[.pointer (some ⟨x,0,none⟩)] w fun e' w'=>e'= .returned e.val∧Kept [] w w':=by
 have hk0:=(Kept.refl [] w).alloc (.cells #[.int .i64 0,.int .i64 0,.int .i64 0,.int .i64 0,.int .i64 0] 24)
 obtain⟨c0,c1,c2,c3,c4,_⟩:=(h.kept hk0 (by simp)).end_
 have HKA:=hide (fun vs:Array Value=>(Kept.refl [] w).alloc (.cells vs 24))
 clear hk0
 unfold Ps.val
 go_enter Tryz.func21,Tryz.ntmps21
 go_wp2
 refine bodyPost_ret (v:= .agg #[.int .i64 e.s,.int .i64 e.o,.int .i64 e.l,.int .i64 e.v,.int .i64 e.m]) (by simp [results,Tryz.results21,go_sem]) rfl ⟨rfl,HKA.out _⟩
theorem err_any (x:Nat)(dv:Option Addr)(a z:Int)(p:Ps)(hb:Bool)(e:Ps)(er:Int)(w:World)(h:ScAt w x dv a z p hb e er):
  Calls Tryz.prog 22 #[.pointer (some ⟨x,0,none⟩)] w fun e' w'=>e'= .returned (.int .i64 er)∧w=w':=by
 obtain⟨_,_,_,_,_,c5⟩:=h.end_
 go_enter Tryz.func22,Tryz.ntmps22
 go_wp2
 go_ret
 exact⟨rfl,rfl⟩
theorem err_nil (w:World):
  Calls Tryz.prog 22 #[.pointer none] w fun e' w'=>e'= .returned (.int .i64 1)∧w=w':=by
 go_enter Tryz.func22,Tryz.ntmps22
 go_wp2
 go_ret
 exact⟨rfl,rfl⟩
theorem records_any (P:Option Addr)(w:World):
  Calls Tryz.prog 84 #[.pointer P] w fun e w'=>e= .returned (.func (.func 148) #[] #[.pointer (some ⟨w.heap.size,0,none⟩)])∧w'=w.alloc (.cells #[.pointer P] 49):=by
 have hmf:∀ (fn:Fn) (first cap:Array Value) (w:World),(Instr.makeFunc fn first cap).run Tryz.prog w= .ok (.func fn first cap) w:=fun _ _ _ _=>rfl
 go_enter Tryz.func84,Tryz.ntmps84
 go_wp2
 go_ret
 exact⟨by simp,rfl⟩

theorem segment_any (d:Nat)(gp:Nat)(b s l r q i:Int)(w:World)(h:GAt w gp b s l r q)(hi:0≤i∧i≤s-1):
  Calls Tryz.prog 26 #[.pointer (some ⟨d,0,none⟩),.pointer (some ⟨gp,0,none⟩),.int .i64 i] w fun e w'=>∃ x,e= .returned (.pointer (some ⟨x,0,none⟩))∧w.heap.size≤x∧
   ScAt w' x (some ⟨d,0,none⟩) (segAt s l r q i) l ⟨i,0,0,0,0⟩ true ⟨i,0,0,0,0⟩ 0∧Kept [] w w':=by
 have HO:Hid (ofSeg (some ⟨d,0,none⟩) s l r q i=(some ⟨d,0,none⟩,segAt s l r q i,l)):=hide (if_pos hi)
 have hl:(l==0)=false:=beq_eq_false_iff_ne.2 (by have:=h.ok;unfold Ok at this;omega)
 have H:=hide h
 clear h hi
 go_enter Tryz.func26,Tryz.ntmps26
 go_wp2_with fail
 refine(new_any d gp b s l r q ⟨i,0,0,0,0⟩ _ H.out).mono ?_
 rintro e w1 ⟨x,rfl,hx,hsc,hk1⟩
 dsimp only at hsc
 rw[HO.out]at hsc
 dsimp only at hsc
 have HS1:=hide hsc
 have HK1:=hide hk1
 have HX:=hide hx
 obtain⟨c0,c1,c2⟩:=hsc.seg
 have c8:=hsc.from_.2.2.2.2.2
 have f8:=hsc.frozen 8
 clear hsc hk1 hx
 go_wp2
 go_ret
 refine⟨x,rfl,HX.out,?_,HK1.out.trans ((Kept.refl [x] w1).set_ (b:=x) (.inl (by simp)) 8 (.bool true)) (fun i hi=>by simp at hi;subst hi;exact .inr HX.out)⟩
 exact Blk.set_ HS1.out 8 (.bool true)
theorem segment_none (d:Nat)(gp:Nat)(b s l r q i:Int)(w:World)(h:GAt w gp b s l r q)(hi:¬(0≤i∧i≤s-1)):
  Calls Tryz.prog 26 #[.pointer (some ⟨d,0,none⟩),.pointer (some ⟨gp,0,none⟩),.int .i64 i] w fun e w'=>e= .returned (.pointer none)∧Kept [] w w':=by
 have HO:Hid (ofSeg (some ⟨d,0,none⟩) s l r q i=(none,0,0)):=hide (if_neg hi)
 have H:=hide h
 clear h hi
 go_enter Tryz.func26,Tryz.ntmps26
 go_wp2_with fail
 refine(new_any d gp b s l r q ⟨i,0,0,0,0⟩ _ H.out).mono ?_
 rintro e w1 ⟨x,rfl,hx,hsc,hk1⟩
 dsimp only at hsc
 rw[HO.out]at hsc
 dsimp only at hsc
 have HK1:=hide hk1
 obtain⟨c0,c1,c2⟩:=hsc.seg
 clear hsc hk1 hx
 go_wp2
 go_ret
 exact⟨rfl,HK1.out⟩
end Go.Proofs.YtjkmahmoclobmaaGreat.sc
namespace Go.Proofs.YtjkmahmoclobmaaGreat.sc
open Go.RowKit mem base disk owns
open record (Rc RcIn RcAt put5 put5_kept cell5)
attribute [local go_sem] Oper.semAt_some
inductive After (D:Dk) (a z:Int) (l:List (Ps×Rc)) (E:Ps) (err:Int) (pre:List (Ps×Rc)) (pk:Ps):Int→Bool→Prop where
 | on (f:Nat) (ho:pk.o≠0) (hf:pk.o<1∨z≤pk.o+f) (hl:l=pre++(recs D a z f pk).1) (he:(recs D a z f pk).2=(E,err)):After D a z l E err pre pk 0 false
 | over (hl:l=pre) (hE:E=pk):After D a z l E err pre pk err true
theorem after_none {D:Dk}{a z:Int}{l:List (Ps×Rc)}{E:Ps}{err:Int}{pre:List (Ps×Rc)}{pk:Ps}{e2:Int}(h:After D a z l E err pre pk 0 false)(hn:follow D a z pk=(none,e2)):l=pre∧E=pk∧err=e2:=by
 cases h with
 | on f ho hf hl he=>
  rw[recs_none hn f hf]at hl he
  injection he with h1 h2
  exact⟨by simpa using hl,h1.symm,h2.symm⟩
theorem after_some {D:Dk}{a z:Int}{l:List (Ps×Rc)}{E:Ps}{err:Int}{pre:List (Ps×Rc)}{pk:Ps}{R:Rc}{s:Int}(h:After D a z l E err pre pk 0 false)(hn:follow D a z pk=(some (R,s),0)):
  After D a z l E err (pre++[(pk,R)]) (behind pk R s) 0 (hasNext R)∧pre++[(pk,R)] <+: l:=by
 cases h with
 | on f ho hf hl he=>
  cases hx:hasNext R with
  | true=>
   rw[recs_last hn f hf hx]at hl he
   injection he with h1 h2
   subst h2
   exact⟨.over hl h1.symm,by rw[hl];exact List.prefix_refl _⟩
  | false=>
   obtain⟨f',rfl,hr,hf',ho'⟩:=recs_more hn f hf hx
   rw[hr]at hl he
   refine⟨.on f' (by omega) hf' (by rw[hl];simp) he,?_⟩
   rw[hl]
   exact⟨(recs D a z f' (behind pk R s)).1,by simp⟩

theorem ScAt.setEnd {w:World}{x:Nat}{dv:Option Addr}{a z er:Int}{p e:Ps}{hb:Bool}(h:ScAt w x dv a z p hb e er)(y:Ps):ScAt (((((w.setCell ⟨x,9,none⟩ (.int .i64 y.s)).setCell ⟨x,10,none⟩ (.int .i64 y.o)).setCell ⟨x,11,none⟩ (.int .i64 y.l)).setCell ⟨x,12,none⟩ (.int .i64 y.v)).setCell ⟨x,13,none⟩ (.int .i64 y.m)) x dv a z p hb y er:=
 Blk.set_ (Blk.set_ (Blk.set_ (Blk.set_ (Blk.set_ h 9 _) 10 _) 11 _) 12 _) 13 _
theorem ScAt.setErr {w:World}{x:Nat}{dv:Option Addr}{a z er:Int}{p e:Ps}{hb:Bool}(h:ScAt w x dv a z p hb e er)(y:Int):ScAt (w.setCell ⟨x,14,none⟩ (.int .i64 y)) x dv a z p hb e y:=Blk.set_ h 14 _
def Abides (N:List Nat→List (Ps×Rc)→List Nat→World→Prop):Prop:=∀ I pre C W W' S,N I pre C W→Kept S W W'→(∀ y∈S,y∈I)→N I pre C W'
structure Apart (C:List Nat)(Bs x:Nat)(F:List Nat):Prop where
 b:Bs∉C
 x:x∉C
 f:∀ y∈F,y∉C
theorem Apart.next {C C':List Nat}{Bs x:Nat}{F:List Nat}(h:Apart C Bs x F){m:Nat}(hC:∀ y∈C',y∈C∨m≤y)(hb:Bs<m)(hx:x<m)(hf:∀ y∈F,y<m):Apart C' Bs x F:=
 ⟨fun hm=>(hC _ hm).elim h.b (fun h1=>by omega),fun hm=>(hC _ hm).elim h.x (fun h1=>by omega),fun y hy hm=>(hC _ hm).elim (h.f y hy) (fun h1=>by have:=hf y hy;omega)⟩
def RecsEnd (D:Dk)(Bs x:Nat)(F:List Nat)(dv:Option Addr)(a z:Int)(p:Ps)(hb:Bool)(l:List (Ps×Rc))(E:Ps)(err:Int)(I0 C0:List Nat)(W0:World)(N Nx:List Nat→List (Ps×Rc)→List Nat→World→Prop)(w':World):Prop:=
 Kept (x::C0) W0 w'∧∃ q C,Apart C Bs x F∧Dsk w' F dv z D∧((N (q::x::I0) l C w'∧ScAt w' x dv a z p hb E err)∨(∃ pre pk ov,pre <+: l∧1≤pre.length∧After D a z l E err pre pk 0 ov∧Nx (q::x::I0) pre C w'∧ScAt w' x dv a z p hb pk 0))
theorem after_begun {D:Dk}{a z:Int}{p:Ps}{hb:Bool}{l:List (Ps×Rc)}{E:Ps}{err:Int}(h:scanOf D a z p hb=(l,E,err)):After D a z l E err [] (begun D a z p hb).1 (begun D a z p hb).2.1 (begun D a z p hb).2.2:=by
 unfold scanOf at h
 unfold begun
 have hs:∀ q e,start D a z p hb=(some q,e)→q.o≠0:=by
  intro q e hq
  unfold start at hq
  split at hq
  ·rename_i h1
   injection hq with h2 _
   injection h2 with h2
   rw[←h2];exact h1
  ·split at hq
   ·cases hq
   ·split at hq
    ·injection hq with h2 _
     injection h2 with h2
     rw[←h2];show(1:Int)≠0;decide
    ·cases hq
 cases hst:start D a z p hb with
 | mk o e=>
  rw[hst]at h
  cases o with
  | none=>
   dsimp only at h ⊢
   injection h with h1 h2
   injection h2 with h2 h3
   subst h1 h2 h3
   exact .over rfl rfl
  | some q=>
   dsimp only at h ⊢
   refine .on z.toNat (hs q e hst) (by omega) ?_ ?_
   ·rw[h];rfl
   ·rw[h]
def ItOn (D:Dk)(Bs x q:Nat)(F:List Nat)(dv:Option Addr)(a z:Int)(p:Ps)(hb:Bool)(l:List (Ps×Rc))(E:Ps)(err:Int)(I0 C0:List Nat)(W0:World)(N:List Nat→List (Ps×Rc)→List Nat→World→Prop)(w:World):Prop:=
 ∃ pre pk er ov C e' er',After D a z l E err pre pk er ov∧WkAt w q dv a z pk er ov∧ScAt w x dv a z p hb e' er'∧N (q::x::I0) pre C w∧(Apart C Bs x F∧q∉C)∧Dsk w F dv z D∧Blk w Bs 49 #[.pointer (some ⟨x,0,none⟩)]∧Kept (x::C0) W0 w∧(∀ y∈C,y∈C0∨W0.heap.size≤y)
def muOf (q:Nat)(z:Int)(v:Value)(w:World):Nat:=2*(match w.cell? ⟨q,4,none⟩with|some (.int _ o)=>(z-o).toNat|_=>0)+(match v with| .bool true=>1|_=>0)
theorem muOf_at {w:World}{q:Nat}{dv:Option Addr}{a z er:Int}{pk:Ps}{ov:Bool}(h:WkAt w q dv a z pk er ov)(b:Bool):muOf q z (.bool b) w=2*(z-pk.o).toNat+(if b then 1 else 0):=by
 unfold muOf
 rw[h.place.2.1]
 cases b<;>rfl

theorem recs_any (n:Nat)(F:List Nat)(D:Dk)(hD:D.ok)(lp Bs x:Nat)(dv:Option Addr)(a z:Int)(p:Ps)(hb:Bool)(e0:Ps)(er0:Int)(l:List (Ps×Rc))(E:Ps)(err:Int)(I0:List Nat)(N Nx:List Nat→List (Ps×Rc)→List Nat→World→Prop)
  (hN:Abides N) (hNx:Abides Nx) (hC:∀ I pre C W,N I pre C W→∀ y∈C,y<W.heap.size) (hl:scanOf D a z p hb=(l,E,err))
  (hY:∀ q pre C W pk R L m c P k d,N (q::x::I0) pre C W→pre++[(pk,R)] <+: l→RcIn W ((q::x::I0)++C) L m P k R→(∀ y∈q::x::I0,y<W.heap.size)→YieldAt Fence.wide (n-1) Tryz.prog lp #[.int .i64 pk.o,.agg #[.int .i64 R.m,.int .i64 R.l,.int .i64 R.p,.slice L m c,.slice P k d]] W fun e W'=>
   ∃ C',(∀ y∈C',y∈C∨W.heap.size≤y)∧Kept C W W'∧((e= .returned (.bool true)∧N (q::x::I0) (pre++[(pk,R)]) C' W')∨(e= .returned (.bool false)∧Nx (q::x::I0) (pre++[(pk,R)]) C' W')))
  (W:World) (C0:List Nat) (h0:∀ q,W.heap.size≤q→N (q::x::I0) [] C0 W) (hI0:∀ y∈I0,y<W.heap.size) (hcz:∀ y∈C0,y<W.heap.size) (hc:Apart C0 Bs x F) (hbox:Blk W Bs 49 #[.pointer (some ⟨x,0,none⟩)]) (hs:ScAt W x dv a z p hb e0 er0) (hv:Dsk W F dv z D) (hF:∀ y∈F,y<W.heap.size) (hxF:x∉F) (hbF:Bs∉F) (hxb:x≠Bs)
  (ha:0≤a∧a≤10000) (hz:0≤z∧z≤1000):
  CallsIn Fence.wide n Tryz.prog 148 #[.func (.yield lp) #[] #[],.pointer (some ⟨Bs,0,none⟩)] W fun e W'=>(∃ v,e= .returned v)∧RecsEnd D Bs x F dv a z p hb l E err I0 C0 W N Nx W':=by
 have HN:=hide hN
 have HNX:=hide hNx
 have HC:=hide hC
 have HY:=hide hY
 have H0:=hide h0
 have HI0:=hide hI0
 have HC0:=hide hcz
 have HAP:=hide hc
 have HBX:=hide hbox
 have HS:=hide hs
 have HV:=hide hv
 have HF:=hide hF
 have HXF:=hide hxF
 have HBF:=hide hbF
 have HXB:=sealed hxb
 have HA:=hide ha
 have HZ:=hide hz
 have HD:=hide hD
 have HL:=sealed hl
 have hc0:W.cell? ⟨Bs,0,none⟩=some (.pointer (some ⟨x,0,none⟩)):=hbox.cell 0
 have HXL:=hide hs.lt
 have HBL:=hide hbox.lt
 clear hN hNx hC hY h0 hI0 hcz hc hbox hs hv hF hxF hbF hxb ha hz hD hl
 have hmx:Tryz.prog.follows .mixedOrders=true:=by kernel_rfl
 refine callsIn_of_wp Tryz.func148 rfl trivial ?_ rfl
 simp only[Tryz.ntmps148,List.size_toArray,List.length_cons,List.length_nil,Nat.reduceAdd,Nat.reduceSub,Array.replicate_succ,Array.replicate_zero,List.push_toArray,List.append_toArray,List.nil_append,List.cons_append]
 gi_wp2_with (refine⟨trivial,(by intro h;cases h),?_⟩;gi_at_call 149;refine(callsIn_wide.2 (begin_any F D HD.out x dv a z p hb e0 er0 _ HS.out HV.out HF.out HA.out HZ.out.2)).mono ?_;rintro e w1 ⟨q,rfl,hq,hwk,hk⟩)
 have HQ:=hide hq
 have HON:Hid (ItOn D Bs x q F dv a z p hb l E err I0 C0 W N w1):=hide (by
  have hk':=hk
  refine⟨[],(begun D a z p hb).1,(begun D a z p hb).2.1,(begun D a z p hb).2.2,C0,e0,er0,?_,hwk,HS.out.kept hk (by simp),HN.out _ _ _ _ _ _ (H0.out q hq) hk (by simp),⟨HAP.out,fun hm=>by have:=HC0.out q hm;omega⟩,HV.out.kept hk (by simp),hk.blk HBX.out (by simp),hk.mono (by simp),fun y hy=> .inl hy⟩
  exact after_begun HL.out)
 clear hwk hk hc0
 have HSEP:=hide (show(q≠x∧q≠Bs)∧q∉F from⟨⟨by have:=HXL.out;omega,by have:=HBL.out;omega⟩,fun hm=>by have:=HF.out q hm;omega⟩)
 gi_loopw [4] (fun v wr=>(v= .bool true∧Hid (ItOn D Bs x q F dv a z p hb l E err I0 C0 W N wr))∨(v= .bool false∧Hid (RecsEnd D Bs x F dv a z p hb l E err I0 C0 W N Nx wr))) (fun v wr=>muOf q z v wr)
 case atStart=>exact .inl ⟨rfl,HON⟩
 case round=>
  rcases hrel with⟨rfl,HI⟩|⟨rfl,HE⟩
  ·obtain⟨pre,pk,er,ov,C,e',er',haf,hwk,hsc,hn,⟨hap,hqc⟩,hdv,hbx,hkw,hcc⟩:=HI.out
   clear HI
   obtain⟨q0,q1,q2,q3,q4⟩:=hwk.place
   cases ov with
   | true=>
    have HPL:Hid (l=pre∧E=pk∧err=er):=hide (by cases haf with|over h1 h2=>exact⟨h1,h2,rfl⟩)
    gi_wp2_with (refine⟨trivial,(by intro h;cases h),?_⟩;gi_at_call 150;refine(callsIn_wide.2 (wnext_over q dv a z pk er _ hwk)).mono ?_;rintro e w2 ⟨rfl,hk2'⟩;clear q0 q1 q2 q3 q4;have hk2:=hk2'.mono (S':=[q]) (by simp);have hw2:=hwk.kept hk2' (by simp);clear hk2')
    obtain⟨pn,hpn⟩:∃ pn,pn=pk:=⟨_,rfl⟩
    obtain⟨en,hen⟩:∃ en,en=er:=⟨_,rfl⟩
    have HPN:=sealed hpn
    rw[←hpn,←hen]at HPL hw2
    clear hen haf hpn
    have hk3:=(Kept.refl [] w2).alloc (.cells #[.int .i64 0,.int .i64 0,.int .i64 0,.slice none 0 0,.slice none 0 0] 111)
    have HWw3:=hide (hw2.kept hk3 (by simp))
    have HSw3:=hide ((hsc.kept hk2 (by have:=HSEP.out.1.1;simpa using fun h=>this h.symm)).kept hk3 (by simp))
    have HBw3:=hide (hk3.blk (hk2.blk hbx (by have:=HSEP.out.1.2;simpa using fun h=>this h.symm)) (by simp))
    have HNw3:=hide (HN.out _ _ _ _ _ _ (HN.out _ _ _ _ _ _ hn hk2 (by simp)) hk3 (by simp))
    have HVw3:=hide ((hdv.kept hk2 (by have:=HSEP.out.2;intro y hy hm;simp at hm;subst hm;exact this hy)).kept hk3 (by simp))
    have HMU:=hide (muOf_at hwk true)
    have HAPP:=hide hap
    have HKW3:=hide ((hkw.trans hk2 (fun i hi=>by simp at hi;subst hi;exact .inr HQ.out)).trans hk3 (by simp))
    clear hk3 hk2 hw2 hsc hbx hn hqc hdv hap hwk hkw hcc
    generalize w2.alloc (.cells #[.int .i64 0,.int .i64 0,.int .i64 0,.slice none 0 0,.slice none 0 0] 111)=w3 at HWw3 HSw3 HBw3 HNw3 HVw3 HKW3 ⊢
    obtain⟨y0,y1,y2,y3,y4,y5⟩:=HSw3.out.end_
    have f9:=HSw3.out.frozen 9
    have f10:=HSw3.out.frozen 10
    have f11:=HSw3.out.frozen 11
    have f12:=HSw3.out.frozen 12
    have f13:=HSw3.out.frozen 13
    obtain⟨q0,q1,q2,q3,q4⟩:=HWw3.out.place
    have q5:=HWw3.out.rest.1
    have b0:w3.cell? ⟨Bs,0,none⟩=some (.pointer (some ⟨x,0,none⟩)):=HBw3.out.cell 0
    have HSA:=hide ((HSw3.out.setEnd pn).kept (Kept.refl [] _).drew (by simp))
    have HKA:=hide (((((((Kept.refl [x] w3).set_ (b:=x) (.inl (by simp)) 9 (.int .i64 pn.s)).set_ (b:=x) (.inl (by simp)) 10 (.int .i64 pn.o)).set_ (b:=x) (.inl (by simp)) 11 (.int .i64 pn.l)).set_ (b:=x) (.inl (by simp)) 12 (.int .i64 pn.v)).set_ (b:=x) (.inl (by simp)) 13 (.int .i64 pn.m)).drew)
    refine wpIn_wide.2 ?_
    refine wp_region_noPanic ?_
    refine wp_region_held_drew (S:=fun W=>True∧W.cell? ⟨Bs,0,none⟩=some (.pointer (some ⟨x,0,none⟩))∧W.cell? ⟨q,3,none⟩=some (.int .i64 pn.s)∧W.cell? ⟨q,4,none⟩=some (.int .i64 pn.o)∧W.cell? ⟨q,5,none⟩=some (.int .i64 pn.l)∧W.cell? ⟨q,6,none⟩=some (.int .i64 pn.v)∧W.cell? ⟨q,7,none⟩=some (.int .i64 pn.m)∧W.cell? ⟨q,8,none⟩=some (.int .i64 en)) (by kernel_rfl) (by exact⟨trivial,b0,q0,q1,q2,q3,q4,q5⟩) (fun hHeld=> ?_)
    refine tK 0 23 rfl ?_
    try simp only[Act.put,pA,pB,pC]
    refine tK 1 24 rfl ?_
    try simp only[Act.put,pA,pB,pC]
    refine tK 2 25 rfl ?_
    try simp only[Act.put,pA,pB,pC]
    refine tK 3 26 rfl ?_
    try simp only[Act.put,pA,pB,pC]
    refine tK 4 27 rfl ?_
    try simp only[Act.put,pA,pB,pC]
    refine tK 5 28 rfl ?_
    try simp only[Act.put,pA,pB,pC]
    refine tK 6 29 rfl ?_
    try simp only[Act.put,pA,pB,pC]
    refine tK 7 30 rfl ?_
    try simp only[Act.put,pA,pB,pC]
    refine tK 8 31 rfl ?_
    try simp only[Act.put,pA,pB,pC]
    refine tK 9 32 rfl ?_
    try simp only[Act.put,pA,pB,pC]
    refine tK 10 33 rfl ?_
    try simp only[Act.put,pA,pB,pC]
    refine tK 11 34 rfl ?_
    try simp only[Act.put,pA,pB,pC]
    refine hO 12 none rfl fun K hK=> ?_
    go_simp
    generalize (((((w3.setCell ⟨x,9,none⟩ (.int .i64 pn.s)).setCell ⟨x,10,none⟩ (.int .i64 pn.o)).setCell ⟨x,11,none⟩ (.int .i64 pn.l)).setCell ⟨x,12,none⟩ (.int .i64 pn.v)).setCell ⟨x,13,none⟩ (.int .i64 pn.m)).drew=wA at HSA HKA ⊢
    have HWA:=hide (HWw3.out.kept HKA.out (by have:=HSEP.out.1.1;simpa using this))
    have HBA:=hide (HKA.out.blk HBw3.out (by have:=HXB.out;simpa using fun h=>this h.symm))
    have f14:=HSA.out.frozen 14
    have y14:=HSA.out.end_.2.2.2.2.2
    refine hK.out _ _ (by exact⟨trivial,HBA.out.cell 0,HWA.out.place.1,HWA.out.place.2.1,HWA.out.place.2.2.1,HWA.out.place.2.2.2.1,HWA.out.place.2.2.2.2,HWA.out.rest.1⟩) (fun hHeld=> ?_)
    clear hK K
    try simp only[Act.put,pA,pB,pC]
    refine tK 13 35 rfl ?_
    try simp only[Act.put,pA,pB,pC]
    refine tK 14 36 rfl ?_
    try simp only[Act.put,pA,pB,pC]
    refine hO 15 none rfl fun K hK=> ?_
    go_simp
    have HSw4:=hide (HSA.out.setErr en)
    have HKB:=hide ((Kept.refl [x] wA).set_ (b:=x) (.inl (by simp)) 14 (.int .i64 en))
    generalize wA.setCell ⟨x,14,none⟩ (.int .i64 en)=w4 at HSw4 HKB ⊢
    have HWw4:=hide (HWA.out.kept HKB.out (by have:=HSEP.out.1.1;simpa using this))
    have HBw4:=hide (HKB.out.blk HBA.out (by have:=HXB.out;simpa using fun h=>this h.symm))
    have HKw4:=hide (HKA.out.trans HKB.out (by simp))
    refine hK.out _ _ (by exact⟨trivial,HBw4.out.cell 0,HWw4.out.place.1,HWw4.out.place.2.1,HWw4.out.place.2.2.1,HWw4.out.place.2.2.2.1,HWw4.out.place.2.2.2.2,HWw4.out.rest.1⟩) (fun hHeld=> ?_)
    clear hK K
    try simp only[Act.put,pA,pB,pC]
    refine wpAnyH_done (by kernel_rfl) ?_ _
    refine NoPanic.normal ?_
    clear y0 y1 y2 y3 y4 y5 f9 f10 f11 f12 f13 f14 y14 q0 q1 q2 q3 q4 q5 b0 HSA HKA HWA HBA HKB
    obtain⟨y0,y1,y2,y3,y4,y5⟩:=HSw4.out.end_
    have f9:=HSw4.out.frozen 9
    have f10:=HSw4.out.frozen 10
    have f11:=HSw4.out.frozen 11
    have f12:=HSw4.out.frozen 12
    have f13:=HSw4.out.frozen 13
    obtain⟨q0,q1,q2,q3,q4⟩:=HWw4.out.place
    have q5:=HWw4.out.rest.1
    have b0:w4.cell? ⟨Bs,0,none⟩=some (.pointer (some ⟨x,0,none⟩)):=HBw4.out.cell 0
    have HSA:=hide ((HSw4.out.setEnd pn).kept (Kept.refl [] _).drew (by simp))
    have HKA:=hide (((((((Kept.refl [x] w4).set_ (b:=x) (.inl (by simp)) 9 (.int .i64 pn.s)).set_ (b:=x) (.inl (by simp)) 10 (.int .i64 pn.o)).set_ (b:=x) (.inl (by simp)) 11 (.int .i64 pn.l)).set_ (b:=x) (.inl (by simp)) 12 (.int .i64 pn.v)).set_ (b:=x) (.inl (by simp)) 13 (.int .i64 pn.m)).drew)
    gi_wp2
    refine⟨fun _ h=>(by cases h),?_⟩
    gi_wp2
    refine wpIn_wide.2 ?_
    refine wp_region_noPanic ?_
    refine wp_region_held_drew (S:=fun W=>True∧W.cell? ⟨Bs,0,none⟩=some (.pointer (some ⟨x,0,none⟩))∧W.cell? ⟨q,3,none⟩=some (.int .i64 pn.s)∧W.cell? ⟨q,4,none⟩=some (.int .i64 pn.o)∧W.cell? ⟨q,5,none⟩=some (.int .i64 pn.l)∧W.cell? ⟨q,6,none⟩=some (.int .i64 pn.v)∧W.cell? ⟨q,7,none⟩=some (.int .i64 pn.m)∧W.cell? ⟨q,8,none⟩=some (.int .i64 en)) (by kernel_rfl) (by exact⟨trivial,b0,q0,q1,q2,q3,q4,q5⟩) (fun hHeld=> ?_)
    refine tK 0 44 rfl ?_
    try simp only[Act.put,pA,pB,pC]
    refine tK 1 45 rfl ?_
    try simp only[Act.put,pA,pB,pC]
    refine tK 2 46 rfl ?_
    try simp only[Act.put,pA,pB,pC]
    refine tK 3 47 rfl ?_
    try simp only[Act.put,pA,pB,pC]
    refine tK 4 48 rfl ?_
    try simp only[Act.put,pA,pB,pC]
    refine tK 5 49 rfl ?_
    try simp only[Act.put,pA,pB,pC]
    refine tK 6 50 rfl ?_
    try simp only[Act.put,pA,pB,pC]
    refine tK 7 51 rfl ?_
    try simp only[Act.put,pA,pB,pC]
    refine tK 8 52 rfl ?_
    try simp only[Act.put,pA,pB,pC]
    refine tK 9 53 rfl ?_
    try simp only[Act.put,pA,pB,pC]
    refine tK 10 54 rfl ?_
    try simp only[Act.put,pA,pB,pC]
    refine tK 11 55 rfl ?_
    try simp only[Act.put,pA,pB,pC]
    refine hO 12 none rfl fun K hK=> ?_
    go_simp
    generalize (((((w4.setCell ⟨x,9,none⟩ (.int .i64 pn.s)).setCell ⟨x,10,none⟩ (.int .i64 pn.o)).setCell ⟨x,11,none⟩ (.int .i64 pn.l)).setCell ⟨x,12,none⟩ (.int .i64 pn.v)).setCell ⟨x,13,none⟩ (.int .i64 pn.m)).drew=wA at HSA HKA ⊢
    have HWA:=hide (HWw4.out.kept HKA.out (by have:=HSEP.out.1.1;simpa using this))
    have HBA:=hide (HKA.out.blk HBw4.out (by have:=HXB.out;simpa using fun h=>this h.symm))
    have f14:=HSA.out.frozen 14
    have y14:=HSA.out.end_.2.2.2.2.2
    refine hK.out _ _ (by exact⟨trivial,HBA.out.cell 0,HWA.out.place.1,HWA.out.place.2.1,HWA.out.place.2.2.1,HWA.out.place.2.2.2.1,HWA.out.place.2.2.2.2,HWA.out.rest.1⟩) (fun hHeld=> ?_)
    clear hK K
    try simp only[Act.put,pA,pB,pC]
    refine tK 13 56 rfl ?_
    try simp only[Act.put,pA,pB,pC]
    refine tK 14 57 rfl ?_
    try simp only[Act.put,pA,pB,pC]
    refine hO 15 none rfl fun K hK=> ?_
    go_simp
    have HSw5:=hide (HSA.out.setErr en)
    have HKB:=hide ((Kept.refl [x] wA).set_ (b:=x) (.inl (by simp)) 14 (.int .i64 en))
    generalize wA.setCell ⟨x,14,none⟩ (.int .i64 en)=w5 at HSw5 HKB ⊢
    have HWw5:=hide (HWA.out.kept HKB.out (by have:=HSEP.out.1.1;simpa using this))
    have HBw5:=hide (HKB.out.blk HBA.out (by have:=HXB.out;simpa using fun h=>this h.symm))
    have HKw5:=hide (HKA.out.trans HKB.out (by simp))
    refine hK.out _ _ (by exact⟨trivial,HBw5.out.cell 0,HWw5.out.place.1,HWw5.out.place.2.1,HWw5.out.place.2.2.1,HWw5.out.place.2.2.2.1,HWw5.out.place.2.2.2.2,HWw5.out.rest.1⟩) (fun hHeld=> ?_)
    clear hK K
    try simp only[Act.put,pA,pB,pC]
    refine wpAnyH_done (by kernel_rfl) ?_ _
    refine NoPanic.normal ?_
    clear y0 y1 y2 y3 y4 y5 f9 f10 f11 f12 f13 f14 y14 q0 q1 q2 q3 q4 q5 b0 HSA HKA HWA HBA HKB
    have HK5:=hide (HKw4.out.trans HKw5.out (by simp))
    have HKW5:=hide (HKW3.out.trans HK5.out (by simp))
    have HNw5:=hide (HN.out _ _ _ _ _ _ HNw3.out HK5.out (by simp))
    have HVw5:=hide (HVw3.out.kept HK5.out (by have:=HXF.out;intro y hy hm;simp at hm;subst hm;exact this hy))
    gi_wp2
    go_roundw
    case rel=>exact .inr ⟨rfl,hide ⟨HKW5.out,q,C,HAPP.out,HVw5.out,.inl ⟨by rw[HPL.out.1];exact HNw5.out,by rw[HPL.out.2.1,HPL.out.2.2];exact HSw5.out⟩⟩⟩
    case measure=>rw[HMU.out,muOf_at HWw5.out false,HPN.out];simp
   | false=>
    have her:er=0:=by cases haf with|on=>rfl
    subst her
    have hox:pk.o≠0:=by cases haf with|on f h1=>exact h1
    have HOX:=sealed hox
    have HAF:=sealed haf
    have HQCC:=hide (HC.out _ _ _ _ hn)
    have HXS:=hide hsc.lt
    have HWL:=hide hwk.lt
    have HCN:=hide (wnext_any ((q::x::I0)++C) F D HD.out q dv a z pk wr hwk hdv HSEP.out.2 HA.out HZ.out hox (fun y hy=>by
     rcases List.mem_append.1 hy with hy|hy
     ·rcases List.mem_cons.1 hy with rfl|hy
      ·exact HWL.out
      rcases List.mem_cons.1 hy with rfl|hy
      ·exact HXS.out
      ·exact Nat.lt_of_lt_of_le (HI0.out y hy) hkw.size
     ·exact HQCC.out y hy))
    clear haf hox
    gi_wp2_with (refine⟨trivial,(by intro h;cases h),?_⟩;gi_at_call 150;refine(callsIn_wide.2 HCN.out).mono ?_;rintro e w2 ⟨(⟨R,sm,L,m,lc,P,k,pc,hfo,rfl,hrc,hw2⟩|⟨e2,hfo,rfl,hw2⟩),hk2⟩<;>clear HCN q0 q1 q2 q3 q4)
    ·have haf:=HAF.out
     have hk3:=(Kept.refl [] w2).alloc (.cells #[.int .i64 R.m,.int .i64 R.l,.int .i64 R.p,.slice L m lc,.slice P k pc] 111)
     have HWw3:=hide (hw2.kept hk3 (by simp))
     have HSw3:=hide ((hsc.kept hk2 (by have:=HSEP.out.1.1;simpa using fun h=>this h.symm)).kept hk3 (by simp))
     have HBw3:=hide (hk3.blk (hk2.blk hbx (by have:=HSEP.out.1.2;simpa using fun h=>this h.symm)) (by simp))
     have HNw3:=hide (HN.out _ _ _ _ _ _ (HN.out _ _ _ _ _ _ hn hk2 (by simp)) hk3 (by simp))
     have HVw3:=hide ((hdv.kept hk2 (by have:=HSEP.out.2;intro y hy hm;simp at hm;subst hm;exact this hy)).kept hk3 (by simp))
     have HRw3:=hide (hrc.kept hk3 (by simp))
     have hrr:=Blk.new w2 111 #[.int .i64 R.m,.int .i64 R.l,.int .i64 R.p,.slice L m lc,.slice P k pc]
     obtain⟨rr,hrn⟩:∃ rr,w2.heap.size=rr:=⟨_,rfl⟩
     rw[hrn]at hrr
     have HRR:=hide hrr
     have HXR:=hide (show x<rr by have:=(hsc.kept hk2 (by have:=HSEP.out.1.1;simpa using fun h=>this h.symm)).lt;omega)
     have HSZ3:=hide (show W.heap.size≤(w2.alloc (.cells #[.int .i64 R.m,.int .i64 R.l,.int .i64 R.p,.slice L m lc,.slice P k pc] 111)).heap.size from Nat.le_trans hkw.size (Nat.le_trans hk2.size hk3.size))
     have HKW3:=hide ((hkw.trans hk2 (fun i hi=>by simp at hi;subst hi;exact .inr HQ.out)).trans hk3 (by simp))
     have HCC:=hide hcc
     have HMU:=hide (muOf_at hwk true)
     have HAPP:=hide hap
     have HQC:=hide hqc
     obtain⟨haf2,hpre⟩:=after_some haf hfo
     have HAF2:=sealed haf2
     have HPRE:=hide hpre
     have hfi:=follow_in hfo
     have HGT:=hide (show(z-(behind pk R sm).o).toNat<(z-pk.o).toNat by unfold behind lenOf;dsimp only;omega)
     clear hk3 hk2 hw2 hsc hbx hn hqc hdv hap hwk hkw hcc hrc hrr haf haf2 hpre hfi hfo
     generalize hpn:behind pk R sm=pn at HWw3 HGT HAF2
     obtain⟨en,hen⟩:∃ en:Int,en=0:=⟨_,rfl⟩
     have HEN:=hide hen
     rw[←hen]at HWw3 HAF2
     clear hpn hen
     generalize w2.alloc (.cells #[.int .i64 R.m,.int .i64 R.l,.int .i64 R.p,.slice L m lc,.slice P k pc] 111)=w3 at HWw3 HSw3 HBw3 HNw3 HVw3 HRw3 HRR HSZ3 HKW3 ⊢
     obtain⟨y0,y1,y2,y3,y4,y5⟩:=HSw3.out.end_
     have f9:=HSw3.out.frozen 9
     have f10:=HSw3.out.frozen 10
     have f11:=HSw3.out.frozen 11
     have f12:=HSw3.out.frozen 12
     have f13:=HSw3.out.frozen 13
     obtain⟨q0,q1,q2,q3,q4⟩:=HWw3.out.place
     have q5:=HWw3.out.rest.1
     have b0:w3.cell? ⟨Bs,0,none⟩=some (.pointer (some ⟨x,0,none⟩)):=HBw3.out.cell 0
     have HSA:=hide ((HSw3.out.setEnd pn).kept (Kept.refl [] _).drew (by simp))
     have HKA:=hide (((((((Kept.refl [x] w3).set_ (b:=x) (.inl (by simp)) 9 (.int .i64 pn.s)).set_ (b:=x) (.inl (by simp)) 10 (.int .i64 pn.o)).set_ (b:=x) (.inl (by simp)) 11 (.int .i64 pn.l)).set_ (b:=x) (.inl (by simp)) 12 (.int .i64 pn.v)).set_ (b:=x) (.inl (by simp)) 13 (.int .i64 pn.m)).drew)
     refine wpIn_wide.2 ?_
     refine wp_region_noPanic ?_
     refine wp_region_held_drew (S:=fun W=>True∧W.cell? ⟨Bs,0,none⟩=some (.pointer (some ⟨x,0,none⟩))∧W.cell? ⟨q,3,none⟩=some (.int .i64 pn.s)∧W.cell? ⟨q,4,none⟩=some (.int .i64 pn.o)∧W.cell? ⟨q,5,none⟩=some (.int .i64 pn.l)∧W.cell? ⟨q,6,none⟩=some (.int .i64 pn.v)∧W.cell? ⟨q,7,none⟩=some (.int .i64 pn.m)∧W.cell? ⟨q,8,none⟩=some (.int .i64 en)) (by kernel_rfl) (by exact⟨trivial,b0,q0,q1,q2,q3,q4,q5⟩) (fun hHeld=> ?_)
     refine tK 0 23 rfl ?_
     try simp only[Act.put,pA,pB,pC]
     refine tK 1 24 rfl ?_
     try simp only[Act.put,pA,pB,pC]
     refine tK 2 25 rfl ?_
     try simp only[Act.put,pA,pB,pC]
     refine tK 3 26 rfl ?_
     try simp only[Act.put,pA,pB,pC]
     refine tK 4 27 rfl ?_
     try simp only[Act.put,pA,pB,pC]
     refine tK 5 28 rfl ?_
     try simp only[Act.put,pA,pB,pC]
     refine tK 6 29 rfl ?_
     try simp only[Act.put,pA,pB,pC]
     refine tK 7 30 rfl ?_
     try simp only[Act.put,pA,pB,pC]
     refine tK 8 31 rfl ?_
     try simp only[Act.put,pA,pB,pC]
     refine tK 9 32 rfl ?_
     try simp only[Act.put,pA,pB,pC]
     refine tK 10 33 rfl ?_
     try simp only[Act.put,pA,pB,pC]
     refine tK 11 34 rfl ?_
     try simp only[Act.put,pA,pB,pC]
     refine hO 12 none rfl fun K hK=> ?_
     go_simp
     generalize (((((w3.setCell ⟨x,9,none⟩ (.int .i64 pn.s)).setCell ⟨x,10,none⟩ (.int .i64 pn.o)).setCell ⟨x,11,none⟩ (.int .i64 pn.l)).setCell ⟨x,12,none⟩ (.int .i64 pn.v)).setCell ⟨x,13,none⟩ (.int .i64 pn.m)).drew=wA at HSA HKA ⊢
     have HWA:=hide (HWw3.out.kept HKA.out (by have:=HSEP.out.1.1;simpa using this))
     have HBA:=hide (HKA.out.blk HBw3.out (by have:=HXB.out;simpa using fun h=>this h.symm))
     have f14:=HSA.out.frozen 14
     have y14:=HSA.out.end_.2.2.2.2.2
     refine hK.out _ _ (by exact⟨trivial,HBA.out.cell 0,HWA.out.place.1,HWA.out.place.2.1,HWA.out.place.2.2.1,HWA.out.place.2.2.2.1,HWA.out.place.2.2.2.2,HWA.out.rest.1⟩) (fun hHeld=> ?_)
     clear hK K
     try simp only[Act.put,pA,pB,pC]
     refine tK 13 35 rfl ?_
     try simp only[Act.put,pA,pB,pC]
     refine tK 14 36 rfl ?_
     try simp only[Act.put,pA,pB,pC]
     refine hO 15 none rfl fun K hK=> ?_
     go_simp
     have HSw4:=hide (HSA.out.setErr en)
     have HKB:=hide ((Kept.refl [x] wA).set_ (b:=x) (.inl (by simp)) 14 (.int .i64 en))
     generalize wA.setCell ⟨x,14,none⟩ (.int .i64 en)=w4 at HSw4 HKB ⊢
     have HWw4:=hide (HWA.out.kept HKB.out (by have:=HSEP.out.1.1;simpa using this))
     have HBw4:=hide (HKB.out.blk HBA.out (by have:=HXB.out;simpa using fun h=>this h.symm))
     have HKw4:=hide (HKA.out.trans HKB.out (by simp))
     refine hK.out _ _ (by exact⟨trivial,HBw4.out.cell 0,HWw4.out.place.1,HWw4.out.place.2.1,HWw4.out.place.2.2.1,HWw4.out.place.2.2.2.1,HWw4.out.place.2.2.2.2,HWw4.out.rest.1⟩) (fun hHeld=> ?_)
     clear hK K
     try simp only[Act.put,pA,pB,pC]
     refine wpAnyH_done (by kernel_rfl) ?_ _
     refine NoPanic.normal ?_
     clear y0 y1 y2 y3 y4 y5 f9 f10 f11 f12 f13 f14 y14 q0 q1 q2 q3 q4 q5 b0 HSA HKA HWA HBA HKB
     have HNw4:=hide (HN.out _ _ _ _ _ _ HNw3.out HKw4.out (by simp))
     have HVw4:=hide (HVw3.out.kept HKw4.out (by have:=HXF.out;intro y hy hm;simp at hm;subst hm;exact this hy))
     have HRw4:=hide (HRw3.out.kept HKw4.out (by simp))
     have HRR4:=hide (HKw4.out.blk HRR.out (by have:=HXR.out;simp;omega))
     have HSZ4:=hide (Nat.le_trans HSZ3.out HKw4.out.size)
     have HKW4:=hide (HKW3.out.trans HKw4.out (by simp))
     obtain⟨r0,r1,r2,r3,r4⟩:=cell5 HRR4.out
     clear HNw3 HVw3 HRw3 HRR HSZ3 HKW3 HKw4 HWw3 HSw3 HBw3
     obtain⟨fn,tmps,assign,body,hy,hR⟩:=HY.out q pre C w4 pk R L m lc P k pc HNw4.out HPRE.out HRw4.out (List.forall_mem_cons.2 ⟨HWw4.out.lt,List.forall_mem_cons.2 ⟨HSw4.out.lt,fun y hy=>Nat.lt_of_lt_of_le (HI0.out y hy) HSZ4.out⟩⟩)
     gi_wp2
     refine⟨(by intro h;cases h),?_⟩
     refine hR.mono ?_
     rintro e w6 ⟨C',hC',hk6,(⟨rfl,hn6⟩|⟨rfl,hn6⟩)⟩
     all_goals
      have HC6:=hide hC'
      have HWw6:=hide (HWw4.out.kept hk6 HQC.out)
      have HSw6:=hide (HSw4.out.kept hk6 HAPP.out.x)
      have HBw6:=hide (hk6.blk HBw4.out HAPP.out.b)
      have HVw6:=hide (HVw4.out.kept hk6 HAPP.out.f)
      have HNw6:=hide hn6
      have HSZ6:=hide (Nat.le_trans HSZ4.out hk6.size)
      have HKW6:=hide (HKW4.out.trans hk6 (fun i hi=>(HCC.out i hi).imp (fun h=>by simp [h]) id))
      have HCC6:Hid (∀ y∈C',y∈C0∨W.heap.size≤y):=hide (fun y hy=>(hC' y hy).elim (HCC.out y) (fun h=> .inr (Nat.le_trans HSZ4.out h)))
      have HAP6:=hide (HAPP.out.next hC' HBw4.out.lt HSw4.out.lt (fun y hy=>Nat.lt_of_lt_of_le (HF.out y hy) HSZ4.out))
      have HQC6:=hide (show q∉C' from fun hm=>(hC' q hm).elim HQC.out (fun h1=>by have:=HWw4.out.lt;omega))
      clear hC' hk6 hn6 r0 r1 r2 r3 r4 HWw4 HSw4 HBw4 HVw4 HNw4 HRw4 HRR4 HSZ4 HC6 HKW4 HCC
     ·obtain⟨y0,y1,y2,y3,y4,y5⟩:=HSw6.out.end_
      have f9:=HSw6.out.frozen 9
      have f10:=HSw6.out.frozen 10
      have f11:=HSw6.out.frozen 11
      have f12:=HSw6.out.frozen 12
      have f13:=HSw6.out.frozen 13
      obtain⟨q0,q1,q2,q3,q4⟩:=HWw6.out.place
      have q5:=HWw6.out.rest.1
      have b0:w6.cell? ⟨Bs,0,none⟩=some (.pointer (some ⟨x,0,none⟩)):=HBw6.out.cell 0
      have HSA:=hide ((HSw6.out.setEnd pn).kept (Kept.refl [] _).drew (by simp))
      have HKA:=hide (((((((Kept.refl [x] w6).set_ (b:=x) (.inl (by simp)) 9 (.int .i64 pn.s)).set_ (b:=x) (.inl (by simp)) 10 (.int .i64 pn.o)).set_ (b:=x) (.inl (by simp)) 11 (.int .i64 pn.l)).set_ (b:=x) (.inl (by simp)) 12 (.int .i64 pn.v)).set_ (b:=x) (.inl (by simp)) 13 (.int .i64 pn.m)).drew)
      gi_wp2
      refine wpIn_wide.2 ?_
      refine wp_region_noPanic ?_
      refine wp_region_held_drew (S:=fun W=>True∧W.cell? ⟨Bs,0,none⟩=some (.pointer (some ⟨x,0,none⟩))∧W.cell? ⟨q,3,none⟩=some (.int .i64 pn.s)∧W.cell? ⟨q,4,none⟩=some (.int .i64 pn.o)∧W.cell? ⟨q,5,none⟩=some (.int .i64 pn.l)∧W.cell? ⟨q,6,none⟩=some (.int .i64 pn.v)∧W.cell? ⟨q,7,none⟩=some (.int .i64 pn.m)∧W.cell? ⟨q,8,none⟩=some (.int .i64 en)) (by kernel_rfl) (by exact⟨trivial,b0,q0,q1,q2,q3,q4,q5⟩) (fun hHeld=> ?_)
      refine tK 0 44 rfl ?_
      try simp only[Act.put,pA,pB,pC]
      refine tK 1 45 rfl ?_
      try simp only[Act.put,pA,pB,pC]
      refine tK 2 46 rfl ?_
      try simp only[Act.put,pA,pB,pC]
      refine tK 3 47 rfl ?_
      try simp only[Act.put,pA,pB,pC]
      refine tK 4 48 rfl ?_
      try simp only[Act.put,pA,pB,pC]
      refine tK 5 49 rfl ?_
      try simp only[Act.put,pA,pB,pC]
      refine tK 6 50 rfl ?_
      try simp only[Act.put,pA,pB,pC]
      refine tK 7 51 rfl ?_
      try simp only[Act.put,pA,pB,pC]
      refine tK 8 52 rfl ?_
      try simp only[Act.put,pA,pB,pC]
      refine tK 9 53 rfl ?_
      try simp only[Act.put,pA,pB,pC]
      refine tK 10 54 rfl ?_
      try simp only[Act.put,pA,pB,pC]
      refine tK 11 55 rfl ?_
      try simp only[Act.put,pA,pB,pC]
      refine hO 12 none rfl fun K hK=> ?_
      go_simp
      generalize (((((w6.setCell ⟨x,9,none⟩ (.int .i64 pn.s)).setCell ⟨x,10,none⟩ (.int .i64 pn.o)).setCell ⟨x,11,none⟩ (.int .i64 pn.l)).setCell ⟨x,12,none⟩ (.int .i64 pn.v)).setCell ⟨x,13,none⟩ (.int .i64 pn.m)).drew=wA at HSA HKA ⊢
      have HWA:=hide (HWw6.out.kept HKA.out (by have:=HSEP.out.1.1;simpa using this))
      have HBA:=hide (HKA.out.blk HBw6.out (by have:=HXB.out;simpa using fun h=>this h.symm))
      have f14:=HSA.out.frozen 14
      have y14:=HSA.out.end_.2.2.2.2.2
      refine hK.out _ _ (by exact⟨trivial,HBA.out.cell 0,HWA.out.place.1,HWA.out.place.2.1,HWA.out.place.2.2.1,HWA.out.place.2.2.2.1,HWA.out.place.2.2.2.2,HWA.out.rest.1⟩) (fun hHeld=> ?_)
      clear hK K
      try simp only[Act.put,pA,pB,pC]
      refine tK 13 56 rfl ?_
      try simp only[Act.put,pA,pB,pC]
      refine tK 14 57 rfl ?_
      try simp only[Act.put,pA,pB,pC]
      refine hO 15 none rfl fun K hK=> ?_
      go_simp
      have HSw7:=hide (HSA.out.setErr en)
      have HKB:=hide ((Kept.refl [x] wA).set_ (b:=x) (.inl (by simp)) 14 (.int .i64 en))
      generalize wA.setCell ⟨x,14,none⟩ (.int .i64 en)=w7 at HSw7 HKB ⊢
      have HWw7:=hide (HWA.out.kept HKB.out (by have:=HSEP.out.1.1;simpa using this))
      have HBw7:=hide (HKB.out.blk HBA.out (by have:=HXB.out;simpa using fun h=>this h.symm))
      have HKw7:=hide (HKA.out.trans HKB.out (by simp))
      refine hK.out _ _ (by exact⟨trivial,HBw7.out.cell 0,HWw7.out.place.1,HWw7.out.place.2.1,HWw7.out.place.2.2.1,HWw7.out.place.2.2.2.1,HWw7.out.place.2.2.2.2,HWw7.out.rest.1⟩) (fun hHeld=> ?_)
      clear hK K
      try simp only[Act.put,pA,pB,pC]
      refine wpAnyH_done (by kernel_rfl) ?_ _
      refine NoPanic.normal ?_
      clear y0 y1 y2 y3 y4 y5 f9 f10 f11 f12 f13 f14 y14 q0 q1 q2 q3 q4 q5 b0 HSA HKA HWA HBA HKB
      have HNw7:=hide (HN.out _ _ _ _ _ _ HNw6.out HKw7.out (by simp))
      have HVw7:=hide (HVw6.out.kept HKw7.out (by have:=HXF.out;intro y hy hm;simp at hm;subst hm;exact this hy))
      have HKW7:=hide (HKW6.out.trans HKw7.out (by simp))
      gi_wp2
      go_roundw
      case rel=>exact .inl ⟨rfl,hide ⟨_,_,_,_,C',_,_,by have:=HAF2.out;rw[HEN.out]at this;exact this,by have:=HWw7.out;rw[HEN.out]at this;exact this,HSw7.out,HNw7.out,⟨HAP6.out,HQC6.out⟩,HVw7.out,HBw7.out,HKW7.out,HCC6.out⟩⟩
      case measure=>rw[HMU.out,muOf_at HWw7.out true];have:=HGT.out;simp;omega
     ·obtain⟨y0,y1,y2,y3,y4,y5⟩:=HSw6.out.end_
      have f9:=HSw6.out.frozen 9
      have f10:=HSw6.out.frozen 10
      have f11:=HSw6.out.frozen 11
      have f12:=HSw6.out.frozen 12
      have f13:=HSw6.out.frozen 13
      obtain⟨q0,q1,q2,q3,q4⟩:=HWw6.out.place
      have q5:=HWw6.out.rest.1
      have b0:w6.cell? ⟨Bs,0,none⟩=some (.pointer (some ⟨x,0,none⟩)):=HBw6.out.cell 0
      have HSA:=hide ((HSw6.out.setEnd pn).kept (Kept.refl [] _).drew (by simp))
      have HKA:=hide (((((((Kept.refl [x] w6).set_ (b:=x) (.inl (by simp)) 9 (.int .i64 pn.s)).set_ (b:=x) (.inl (by simp)) 10 (.int .i64 pn.o)).set_ (b:=x) (.inl (by simp)) 11 (.int .i64 pn.l)).set_ (b:=x) (.inl (by simp)) 12 (.int .i64 pn.v)).set_ (b:=x) (.inl (by simp)) 13 (.int .i64 pn.m)).drew)
      gi_wp2
      refine wpIn_wide.2 ?_
      refine wp_region_noPanic ?_
      refine wp_region_held_drew (S:=fun W=>True∧W.cell? ⟨Bs,0,none⟩=some (.pointer (some ⟨x,0,none⟩))∧W.cell? ⟨q,3,none⟩=some (.int .i64 pn.s)∧W.cell? ⟨q,4,none⟩=some (.int .i64 pn.o)∧W.cell? ⟨q,5,none⟩=some (.int .i64 pn.l)∧W.cell? ⟨q,6,none⟩=some (.int .i64 pn.v)∧W.cell? ⟨q,7,none⟩=some (.int .i64 pn.m)∧W.cell? ⟨q,8,none⟩=some (.int .i64 en)) (by kernel_rfl) (by exact⟨trivial,b0,q0,q1,q2,q3,q4,q5⟩) (fun hHeld=> ?_)
      refine tK 0 44 rfl ?_
      try simp only[Act.put,pA,pB,pC]
      refine tK 1 45 rfl ?_
      try simp only[Act.put,pA,pB,pC]
      refine tK 2 46 rfl ?_
      try simp only[Act.put,pA,pB,pC]
      refine tK 3 47 rfl ?_
      try simp only[Act.put,pA,pB,pC]
      refine tK 4 48 rfl ?_
      try simp only[Act.put,pA,pB,pC]
      refine tK 5 49 rfl ?_
      try simp only[Act.put,pA,pB,pC]
      refine tK 6 50 rfl ?_
      try simp only[Act.put,pA,pB,pC]
      refine tK 7 51 rfl ?_
      try simp only[Act.put,pA,pB,pC]
      refine tK 8 52 rfl ?_
      try simp only[Act.put,pA,pB,pC]
      refine tK 9 53 rfl ?_
      try simp only[Act.put,pA,pB,pC]
      refine tK 10 54 rfl ?_
      try simp only[Act.put,pA,pB,pC]
      refine tK 11 55 rfl ?_
      try simp only[Act.put,pA,pB,pC]
      refine hO 12 none rfl fun K hK=> ?_
      go_simp
      generalize (((((w6.setCell ⟨x,9,none⟩ (.int .i64 pn.s)).setCell ⟨x,10,none⟩ (.int .i64 pn.o)).setCell ⟨x,11,none⟩ (.int .i64 pn.l)).setCell ⟨x,12,none⟩ (.int .i64 pn.v)).setCell ⟨x,13,none⟩ (.int .i64 pn.m)).drew=wA at HSA HKA ⊢
      have HWA:=hide (HWw6.out.kept HKA.out (by have:=HSEP.out.1.1;simpa using this))
      have HBA:=hide (HKA.out.blk HBw6.out (by have:=HXB.out;simpa using fun h=>this h.symm))
      have f14:=HSA.out.frozen 14
      have y14:=HSA.out.end_.2.2.2.2.2
      refine hK.out _ _ (by exact⟨trivial,HBA.out.cell 0,HWA.out.place.1,HWA.out.place.2.1,HWA.out.place.2.2.1,HWA.out.place.2.2.2.1,HWA.out.place.2.2.2.2,HWA.out.rest.1⟩) (fun hHeld=> ?_)
      clear hK K
      try simp only[Act.put,pA,pB,pC]
      refine tK 13 56 rfl ?_
      try simp only[Act.put,pA,pB,pC]
      refine tK 14 57 rfl ?_
      try simp only[Act.put,pA,pB,pC]
      refine hO 15 none rfl fun K hK=> ?_
      go_simp
      have HSw7:=hide (HSA.out.setErr en)
      have HKB:=hide ((Kept.refl [x] wA).set_ (b:=x) (.inl (by simp)) 14 (.int .i64 en))
      generalize wA.setCell ⟨x,14,none⟩ (.int .i64 en)=w7 at HSw7 HKB ⊢
      have HWw7:=hide (HWA.out.kept HKB.out (by have:=HSEP.out.1.1;simpa using this))
      have HBw7:=hide (HKB.out.blk HBA.out (by have:=HXB.out;simpa using fun h=>this h.symm))
      have HKw7:=hide (HKA.out.trans HKB.out (by simp))
      refine hK.out _ _ (by exact⟨trivial,HBw7.out.cell 0,HWw7.out.place.1,HWw7.out.place.2.1,HWw7.out.place.2.2.1,HWw7.out.place.2.2.2.1,HWw7.out.place.2.2.2.2,HWw7.out.rest.1⟩) (fun hHeld=> ?_)
      clear hK K
      try simp only[Act.put,pA,pB,pC]
      refine wpAnyH_done (by kernel_rfl) ?_ _
      refine NoPanic.normal ?_
      clear y0 y1 y2 y3 y4 y5 f9 f10 f11 f12 f13 f14 y14 q0 q1 q2 q3 q4 q5 b0 HSA HKA HWA HBA HKB
      have HNw7:=hide (HNX.out _ _ _ _ _ _ HNw6.out HKw7.out (by simp))
      have HVw7:=hide (HVw6.out.kept HKw7.out (by have:=HXF.out;intro y hy hm;simp at hm;subst hm;exact this hy))
      have HKW7:=hide (HKW6.out.trans HKw7.out (by simp))
      gi_wp2
      go_roundw
      case rel=>exact .inr ⟨rfl,hide ⟨HKW7.out,q,C',HAP6.out,HVw7.out,.inr ⟨_,pn,_,HPRE.out,by simp,by have:=HAF2.out;rw[HEN.out]at this;exact this,HNw7.out,by have:=HSw7.out;rw[HEN.out]at this;exact this⟩⟩⟩
      case measure=>rw[HMU.out,muOf_at HWw7.out false];have:=HGT.out;simp;omega
    ·have HPL:Hid (l=pre∧E=pk∧err=e2):=hide (after_none HAF.out hfo)
     clear hfo
     obtain⟨pn,hpn⟩:∃ pn,pn=pk:=⟨_,rfl⟩
     obtain⟨en,hen⟩:∃ en,en=e2:=⟨_,rfl⟩
     have HPN:=sealed hpn
     rw[←hpn,←hen]at HPL hw2
     clear hen hpn
     have hk3:=(Kept.refl [] w2).alloc (.cells #[.int .i64 0,.int .i64 0,.int .i64 0,.slice none 0 0,.slice none 0 0] 111)
     have HWw3:=hide (hw2.kept hk3 (by simp))
     have HSw3:=hide ((hsc.kept hk2 (by have:=HSEP.out.1.1;simpa using fun h=>this h.symm)).kept hk3 (by simp))
     have HBw3:=hide (hk3.blk (hk2.blk hbx (by have:=HSEP.out.1.2;simpa using fun h=>this h.symm)) (by simp))
     have HNw3:=hide (HN.out _ _ _ _ _ _ (HN.out _ _ _ _ _ _ hn hk2 (by simp)) hk3 (by simp))
     have HVw3:=hide ((hdv.kept hk2 (by have:=HSEP.out.2;intro y hy hm;simp at hm;subst hm;exact this hy)).kept hk3 (by simp))
     have HMU:=hide (muOf_at hwk true)
     have HAPP:=hide hap
     have HKW3:=hide ((hkw.trans hk2 (fun i hi=>by simp at hi;subst hi;exact .inr HQ.out)).trans hk3 (by simp))
     clear hk3 hk2 hw2 hsc hbx hn hqc hdv hap hwk hkw hcc
     generalize w2.alloc (.cells #[.int .i64 0,.int .i64 0,.int .i64 0,.slice none 0 0,.slice none 0 0] 111)=w3 at HWw3 HSw3 HBw3 HNw3 HVw3 HKW3 ⊢
     obtain⟨y0,y1,y2,y3,y4,y5⟩:=HSw3.out.end_
     have f9:=HSw3.out.frozen 9
     have f10:=HSw3.out.frozen 10
     have f11:=HSw3.out.frozen 11
     have f12:=HSw3.out.frozen 12
     have f13:=HSw3.out.frozen 13
     obtain⟨q0,q1,q2,q3,q4⟩:=HWw3.out.place
     have q5:=HWw3.out.rest.1
     have b0:w3.cell? ⟨Bs,0,none⟩=some (.pointer (some ⟨x,0,none⟩)):=HBw3.out.cell 0
     have HSA:=hide ((HSw3.out.setEnd pn).kept (Kept.refl [] _).drew (by simp))
     have HKA:=hide (((((((Kept.refl [x] w3).set_ (b:=x) (.inl (by simp)) 9 (.int .i64 pn.s)).set_ (b:=x) (.inl (by simp)) 10 (.int .i64 pn.o)).set_ (b:=x) (.inl (by simp)) 11 (.int .i64 pn.l)).set_ (b:=x) (.inl (by simp)) 12 (.int .i64 pn.v)).set_ (b:=x) (.inl (by simp)) 13 (.int .i64 pn.m)).drew)
     refine wpIn_wide.2 ?_
     refine wp_region_noPanic ?_
     refine wp_region_held_drew (S:=fun W=>True∧W.cell? ⟨Bs,0,none⟩=some (.pointer (some ⟨x,0,none⟩))∧W.cell? ⟨q,3,none⟩=some (.int .i64 pn.s)∧W.cell? ⟨q,4,none⟩=some (.int .i64 pn.o)∧W.cell? ⟨q,5,none⟩=some (.int .i64 pn.l)∧W.cell? ⟨q,6,none⟩=some (.int .i64 pn.v)∧W.cell? ⟨q,7,none⟩=some (.int .i64 pn.m)∧W.cell? ⟨q,8,none⟩=some (.int .i64 en)) (by kernel_rfl) (by exact⟨trivial,b0,q0,q1,q2,q3,q4,q5⟩) (fun hHeld=> ?_)
     refine tK 0 23 rfl ?_
     try simp only[Act.put,pA,pB,pC]
     refine tK 1 24 rfl ?_
     try simp only[Act.put,pA,pB,pC]
     refine tK 2 25 rfl ?_
     try simp only[Act.put,pA,pB,pC]
     refine tK 3 26 rfl ?_
     try simp only[Act.put,pA,pB,pC]
     refine tK 4 27 rfl ?_
     try simp only[Act.put,pA,pB,pC]
     refine tK 5 28 rfl ?_
     try simp only[Act.put,pA,pB,pC]
     refine tK 6 29 rfl ?_
     try simp only[Act.put,pA,pB,pC]
     refine tK 7 30 rfl ?_
     try simp only[Act.put,pA,pB,pC]
     refine tK 8 31 rfl ?_
     try simp only[Act.put,pA,pB,pC]
     refine tK 9 32 rfl ?_
     try simp only[Act.put,pA,pB,pC]
     refine tK 10 33 rfl ?_
     try simp only[Act.put,pA,pB,pC]
     refine tK 11 34 rfl ?_
     try simp only[Act.put,pA,pB,pC]
     refine hO 12 none rfl fun K hK=> ?_
     go_simp
     generalize (((((w3.setCell ⟨x,9,none⟩ (.int .i64 pn.s)).setCell ⟨x,10,none⟩ (.int .i64 pn.o)).setCell ⟨x,11,none⟩ (.int .i64 pn.l)).setCell ⟨x,12,none⟩ (.int .i64 pn.v)).setCell ⟨x,13,none⟩ (.int .i64 pn.m)).drew=wA at HSA HKA ⊢
     have HWA:=hide (HWw3.out.kept HKA.out (by have:=HSEP.out.1.1;simpa using this))
     have HBA:=hide (HKA.out.blk HBw3.out (by have:=HXB.out;simpa using fun h=>this h.symm))
     have f14:=HSA.out.frozen 14
     have y14:=HSA.out.end_.2.2.2.2.2
     refine hK.out _ _ (by exact⟨trivial,HBA.out.cell 0,HWA.out.place.1,HWA.out.place.2.1,HWA.out.place.2.2.1,HWA.out.place.2.2.2.1,HWA.out.place.2.2.2.2,HWA.out.rest.1⟩) (fun hHeld=> ?_)
     clear hK K
     try simp only[Act.put,pA,pB,pC]
     refine tK 13 35 rfl ?_
     try simp only[Act.put,pA,pB,pC]
     refine tK 14 36 rfl ?_
     try simp only[Act.put,pA,pB,pC]
     refine hO 15 none rfl fun K hK=> ?_
     go_simp
     have HSw4:=hide (HSA.out.setErr en)
     have HKB:=hide ((Kept.refl [x] wA).set_ (b:=x) (.inl (by simp)) 14 (.int .i64 en))
     generalize wA.setCell ⟨x,14,none⟩ (.int .i64 en)=w4 at HSw4 HKB ⊢
     have HWw4:=hide (HWA.out.kept HKB.out (by have:=HSEP.out.1.1;simpa using this))
     have HBw4:=hide (HKB.out.blk HBA.out (by have:=HXB.out;simpa using fun h=>this h.symm))
     have HKw4:=hide (HKA.out.trans HKB.out (by simp))
     refine hK.out _ _ (by exact⟨trivial,HBw4.out.cell 0,HWw4.out.place.1,HWw4.out.place.2.1,HWw4.out.place.2.2.1,HWw4.out.place.2.2.2.1,HWw4.out.place.2.2.2.2,HWw4.out.rest.1⟩) (fun hHeld=> ?_)
     clear hK K
     try simp only[Act.put,pA,pB,pC]
     refine wpAnyH_done (by kernel_rfl) ?_ _
     refine NoPanic.normal ?_
     clear y0 y1 y2 y3 y4 y5 f9 f10 f11 f12 f13 f14 y14 q0 q1 q2 q3 q4 q5 b0 HSA HKA HWA HBA HKB
     obtain⟨y0,y1,y2,y3,y4,y5⟩:=HSw4.out.end_
     have f9:=HSw4.out.frozen 9
     have f10:=HSw4.out.frozen 10
     have f11:=HSw4.out.frozen 11
     have f12:=HSw4.out.frozen 12
     have f13:=HSw4.out.frozen 13
     obtain⟨q0,q1,q2,q3,q4⟩:=HWw4.out.place
     have q5:=HWw4.out.rest.1
     have b0:w4.cell? ⟨Bs,0,none⟩=some (.pointer (some ⟨x,0,none⟩)):=HBw4.out.cell 0
     have HSA:=hide ((HSw4.out.setEnd pn).kept (Kept.refl [] _).drew (by simp))
     have HKA:=hide (((((((Kept.refl [x] w4).set_ (b:=x) (.inl (by simp)) 9 (.int .i64 pn.s)).set_ (b:=x) (.inl (by simp)) 10 (.int .i64 pn.o)).set_ (b:=x) (.inl (by simp)) 11 (.int .i64 pn.l)).set_ (b:=x) (.inl (by simp)) 12 (.int .i64 pn.v)).set_ (b:=x) (.inl (by simp)) 13 (.int .i64 pn.m)).drew)
     gi_wp2
     refine⟨fun _ h=>(by cases h),?_⟩
     gi_wp2
     refine wpIn_wide.2 ?_
     refine wp_region_noPanic ?_
     refine wp_region_held_drew (S:=fun W=>True∧W.cell? ⟨Bs,0,none⟩=some (.pointer (some ⟨x,0,none⟩))∧W.cell? ⟨q,3,none⟩=some (.int .i64 pn.s)∧W.cell? ⟨q,4,none⟩=some (.int .i64 pn.o)∧W.cell? ⟨q,5,none⟩=some (.int .i64 pn.l)∧W.cell? ⟨q,6,none⟩=some (.int .i64 pn.v)∧W.cell? ⟨q,7,none⟩=some (.int .i64 pn.m)∧W.cell? ⟨q,8,none⟩=some (.int .i64 en)) (by kernel_rfl) (by exact⟨trivial,b0,q0,q1,q2,q3,q4,q5⟩) (fun hHeld=> ?_)
     refine tK 0 44 rfl ?_
     try simp only[Act.put,pA,pB,pC]
     refine tK 1 45 rfl ?_
     try simp only[Act.put,pA,pB,pC]
     refine tK 2 46 rfl ?_
     try simp only[Act.put,pA,pB,pC]
     refine tK 3 47 rfl ?_
     try simp only[Act.put,pA,pB,pC]
     refine tK 4 48 rfl ?_
     try simp only[Act.put,pA,pB,pC]
     refine tK 5 49 rfl ?_
     try simp only[Act.put,pA,pB,pC]
     refine tK 6 50 rfl ?_
     try simp only[Act.put,pA,pB,pC]
     refine tK 7 51 rfl ?_
     try simp only[Act.put,pA,pB,pC]
     refine tK 8 52 rfl ?_
     try simp only[Act.put,pA,pB,pC]
     refine tK 9 53 rfl ?_
     try simp only[Act.put,pA,pB,pC]
     refine tK 10 54 rfl ?_
     try simp only[Act.put,pA,pB,pC]
     refine tK 11 55 rfl ?_
     try simp only[Act.put,pA,pB,pC]
     refine hO 12 none rfl fun K hK=> ?_
     go_simp
     generalize (((((w4.setCell ⟨x,9,none⟩ (.int .i64 pn.s)).setCell ⟨x,10,none⟩ (.int .i64 pn.o)).setCell ⟨x,11,none⟩ (.int .i64 pn.l)).setCell ⟨x,12,none⟩ (.int .i64 pn.v)).setCell ⟨x,13,none⟩ (.int .i64 pn.m)).drew=wA at HSA HKA ⊢
     have HWA:=hide (HWw4.out.kept HKA.out (by have:=HSEP.out.1.1;simpa using this))
     have HBA:=hide (HKA.out.blk HBw4.out (by have:=HXB.out;simpa using fun h=>this h.symm))
     have f14:=HSA.out.frozen 14
     have y14:=HSA.out.end_.2.2.2.2.2
     refine hK.out _ _ (by exact⟨trivial,HBA.out.cell 0,HWA.out.place.1,HWA.out.place.2.1,HWA.out.place.2.2.1,HWA.out.place.2.2.2.1,HWA.out.place.2.2.2.2,HWA.out.rest.1⟩) (fun hHeld=> ?_)
     clear hK K
     try simp only[Act.put,pA,pB,pC]
     refine tK 13 56 rfl ?_
     try simp only[Act.put,pA,pB,pC]
     refine tK 14 57 rfl ?_
     try simp only[Act.put,pA,pB,pC]
     refine hO 15 none rfl fun K hK=> ?_
     go_simp
     have HSw5:=hide (HSA.out.setErr en)
     have HKB:=hide ((Kept.refl [x] wA).set_ (b:=x) (.inl (by simp)) 14 (.int .i64 en))
     generalize wA.setCell ⟨x,14,none⟩ (.int .i64 en)=w5 at HSw5 HKB ⊢
     have HWw5:=hide (HWA.out.kept HKB.out (by have:=HSEP.out.1.1;simpa using this))
     have HBw5:=hide (HKB.out.blk HBA.out (by have:=HXB.out;simpa using fun h=>this h.symm))
     have HKw5:=hide (HKA.out.trans HKB.out (by simp))
     refine hK.out _ _ (by exact⟨trivial,HBw5.out.cell 0,HWw5.out.place.1,HWw5.out.place.2.1,HWw5.out.place.2.2.1,HWw5.out.place.2.2.2.1,HWw5.out.place.2.2.2.2,HWw5.out.rest.1⟩) (fun hHeld=> ?_)
     clear hK K
     try simp only[Act.put,pA,pB,pC]
     refine wpAnyH_done (by kernel_rfl) ?_ _
     refine NoPanic.normal ?_
     clear y0 y1 y2 y3 y4 y5 f9 f10 f11 f12 f13 f14 y14 q0 q1 q2 q3 q4 q5 b0 HSA HKA HWA HBA HKB
     have HK5:=hide (HKw4.out.trans HKw5.out (by simp))
     have HKW5:=hide (HKW3.out.trans HK5.out (by simp))
     have HNw5:=hide (HN.out _ _ _ _ _ _ HNw3.out HK5.out (by simp))
     have HVw5:=hide (HVw3.out.kept HK5.out (by have:=HXF.out;intro y hy hm;simp at hm;subst hm;exact this hy))
     gi_wp2
     go_roundw
     case rel=>exact .inr ⟨rfl,hide ⟨HKW5.out,q,C,HAPP.out,HVw5.out,.inl ⟨by rw[HPL.out.1];exact HNw5.out,by rw[HPL.out.2.1,HPL.out.2.2];exact HSw5.out⟩⟩⟩
     case measure=>rw[HMU.out,muOf_at HWw5.out false,HPN.out];simp
  ·gi_wp2
   go_end0
   exact⟨⟨_,rfl⟩,HE.out⟩
end Go.Proofs.YtjkmahmoclobmaaGreat.sc
namespace Go.Proofs.YtjkmahmoclobmaaGreat.sc
open Go.RowKit mem
open record (Rc RcIn)
theorem kept_put (W:World)(i:Nat)(o:Obj):Kept [i] W (W.putObj i o):=
 ⟨rfl,rfl,rfl,by simp [World.putObj],fun k _ hk=>World.putObj_heap_other (by simpa using hk)⟩
def recVal (R:Rc)(L:Option Addr)(m c:Nat)(P:Option Addr)(k d:Nat):Value:= .agg #[.int .i64 R.m,.int .i64 R.l,.int .i64 R.p,.slice L m c,.slice P k d]
def RoundPost (I C:List Nat)(pre:List (Ps×Rc))(N:List Nat→List (Ps×Rc)→List Nat→World→Prop)(Nx:Code→List Nat→List (Ps×Rc)→List Nat→World→Prop)(W:World):Exit→Act→World→Prop
 | .normal,_,W'=>∃ C',(∀ y∈C',y∈C∨W.heap.size≤y)∧Kept C W W'∧N I pre C' W'
 | .ret,_,W'=>∃ C',(∀ y∈C',y∈C∨W.heap.size≤y)∧Kept C W W'∧Nx .ret I pre C' W'
 | .exit i,_,W'=>∃ C',(∀ y∈C',y∈C∨W.heap.size≤y)∧Kept C W W'∧Nx (.exit i) I pre C' W'
 | .goto i,_,W'=>∃ C',(∀ y∈C',y∈C∨W.heap.size≤y)∧Kept C W W'∧Nx (.goto i) I pre C' W'
 | .panic _,_,_=>False
 | .outgrown,_,_=>False

section
variable {P:Program}{n:Nat}
theorem range_recs {g:Operand}{ps:Array Tmp}{assign body:Code}{Q:Exit→Act→World→Prop}{a:Act}{w:World}(h1:1≤n){gf:Nat}{lb:Array Value}
  (hg:a.eval g= .func (.func gf) #[] lb) (eg:∀ args w,(callFunc gf args).run P w= .ok (.enter gf args) w) (hps:ps.size=2)
  (l:List (Ps×Rc)) (I0:List Nat→World→Prop) (C0:List Nat) (G:Option (List (Ps×Rc))→World→Prop) (N:List Nat→List (Ps×Rc)→List Nat→World→Prop) (Nx:Code→List Nat→List (Ps×Rc)→List Nat→World→Prop)
  (hN:Abides N) (hNx:∀ c,Abides (Nx c)) (hC:∀ I pre C W,N I pre C W→∀ y∈C,y<W.heap.size)
  (hG:∀ b W i (o o':Obj),G b W→w.heap.size≤i→W.heap[i]? = some o→o.isCells=false→G b (W.putObj i o'))
  (hseq:∀ (lp:Nat) (J Jx:List Nat→List (Ps×Rc)→List Nat→World→Prop),Abides J→Abides Jx→(∀ I pre C W,J I pre C W→∀ y∈C,y<W.heap.size)→
   (∀ I pre C W pk R L m c A k d,J I pre C W→pre++[(pk,R)] <+: l→RcIn W (I++C) L m A k R→(∀ y∈I,y<W.heap.size)→YieldAt Fence.wide (n-1-1) P lp #[.int .i64 pk.o,recVal R L m c A k d] W fun e W'=>
    ∃ C',(∀ y∈C',y∈C∨W.heap.size≤y)∧Kept C W W'∧((e= .returned (.bool true)∧J I (pre++[(pk,R)]) C' W')∨(e= .returned (.bool false)∧Jx I (pre++[(pk,R)]) C' W')))→
   ∀ W,Kept [] w W→w.heap.size+1<W.heap.size→(∀ I,I0 I W→J I [] ((w.heap.size+1)::w.heap.size::C0) W)→CallsIn Fence.wide (n-1) P gf (#[.func (.yield lp) #[] #[]]++lb) W fun e W'=>(∃ v,e= .returned v)∧∃ I C',(J I l C' W'∧G none W')∨(∃ pre,Jx I pre C' W'∧G (some pre) W'))
  (hI0:∀ I W,Kept [] w W→w.heap.size+1<W.heap.size→I0 I W→w.heap.size∉I∧w.heap.size+1∉I) (hC0:∀ y∈C0,y<w.heap.size) (h0:∀ I W,Kept [] w W→w.heap.size+1<W.heap.size→I0 I W→N ((w.heap.size+1)::I) [] C0 W)
  (hround:∀ (lp:Nat) (I:List Nat) (pre:List (Ps×Rc)) (C:List Nat) (pk:Ps) (R:Rc) (L:Option Addr) (m c:Nat) (A:Option Addr) (k d:Nat) (W:World) (K:Act→World→Prop),N I pre C W→pre++[(pk,R)] <+: l→RcIn W (I++C) L m A k R→(∀ y∈I,y<W.heap.size)→
   (∀ a' W1 C1,(∀ y∈C1,y∈C∨W.heap.size≤y)→Kept [] W W1→(∀ W2 S,Kept S W1 W2→(∀ y∈S,y∈I)→body.wpIn (Fence.wide.inRound lp) (n-1-1) P (RoundPost I C1 (pre++[(pk,R)]) N Nx W2) a' W2)→K a' W1)→
   assign.wpIn (Fence.wide.inRound lp) (n-1-1) P (Exit.then K (fun _ _ _=>False)) {tmps:=(ps.zip #[Value.int .i64 pk.o,recVal R L m c A k d]).foldl (fun t (p,v)=>t.setIfInBounds p v) a.tmps,defers:=[]} W)
  (hdone:∀ (D:Nat) (C:List Nat) (W:World),w.heap.size≤D→(∃ I,N I l C W)→G none W→D∉C→W.heap[D]? = some (.deferred (some []))→Q .normal {a with defers:={target:= .collected D,args:=#[]}::a.defers} W)
  (hstop:∀ (D:Nat) (C:List Nat) (c:Code) (pre:List (Ps×Rc)) (W:World),w.heap.size≤D→(∃ I,Nx c I pre C W)→G (some pre) W→D∉C→W.heap[D]? = some (.deferred (some []))→c.wpIn Fence.wide n P Q {a with defers:={target:= .collected D,args:=#[]}::a.defers} W):
  (Code.rangeFunc g ps assign body).wpIn Fence.wide n P Q a w:=by
 refine wpIn_rangeFunc fun fn hfn=> ?_
 obtain⟨D,hD⟩:∃ D,w.heap.size=D:=⟨_,rfl⟩
 obtain⟨rc,hrc'⟩:∃ rc:LoopState→Option Code→Loop,rc=fun st pe=>{state:=st,pending:=pe,fn,tmps:=a.tmps,params:=ps,assign,body,defers:=D}:=⟨_,rfl⟩
 have e1:(Instr.enterLoop fn a.tmps ps assign body none).run P w= .ok (D+1,[{target:= .collected D,args:=#[]}]) ((w.alloc (.deferred (some []))).alloc (.loop (rc .ready none))):=by
  rw[run_enterLoop_outer,hrc',hD]
 obtain⟨W1,hW1⟩:∃ W1,(w.alloc (.deferred (some []))).alloc (.loop (rc .ready none))=W1:=⟨_,rfl⟩
 have hk1:Kept [] w W1:=by rw[←hW1];exact((Kept.refl [] w).alloc _).alloc _
 rw[hW1]at e1
 have r1:W1.heap[D+1]? = some (.loop (rc .ready none)):=by
  have:=World.alloc_heap_new (w.alloc (.deferred (some []))) (.loop (rc .ready none))
  rwa [World.size_alloc,hW1,hD]at this
 have d1:W1.heap[D]? = some (.deferred (some [])):=by
  rw[←hW1,←hD]
  exact(Below.heap_alloc _ _ _ (by simp)).trans (World.alloc_heap_new w _)
 have hs1:D+1<W1.heap.size:=(Array.getElem?_eq_some_iff.1 r1).1
 refine⟨D+1,_,W1,{target:= .fn (.func gf) lb,args:=#[.func (.yield (D+1)) #[] #[]]},W1,gf,#[.func (.yield (D+1)) #[] #[]]++lb,W1,e1,?_,fun _ _=>trivial,?_,fun _=>h1,?_⟩
 ·simp only[resolve,hg]
  simp [go_sem]
 ·simp [invoke,go_sem,eg]
 have hx0:D∉C0∧D+1∉C0:=⟨fun hm=>by have:=hC0 _ hm;omega,fun hm=>by have:=hC0 _ hm;omega⟩
 refine(hseq (D+1)
  (fun I pre C W=>∃ Cb,C=(D+1)::D::Cb∧N ((D+1)::I) pre Cb W∧D+1∉I∧D∉I∧W.heap[D+1]? = some (.loop (rc .ready none))∧W.heap[D]? = some (.deferred (some []))∧D∉Cb∧D+1∉Cb)
  (fun I pre C W=>∃ Cb c,C=(D+1)::D::Cb∧Nx c ((D+1)::I) pre Cb W∧D+1∉I∧D∉I∧W.heap[D+1]? = some (.loop (rc .done (some c)))∧W.heap[D]? = some (.deferred (some []))∧D∉Cb∧D+1∉Cb)
  ?_ ?_ ?_ ?_ W1 hk1 (by rw[hD];exact hs1) (fun I hI=>⟨C0,by rw[hD],by have:=h0 I W1 hk1 (by rw[hD];exact hs1) hI;rw[hD]at this;exact this,(by have:=(hI0 I W1 hk1 (by rw[hD];exact hs1) hI).2;rw[hD]at this;exact this),(by have:=(hI0 I W1 hk1 (by rw[hD];exact hs1) hI).1;rw[hD]at this;exact this),r1,d1,hx0⟩)).mono ?_
 ·rintro I pre C W W' S ⟨Cb,rfl,hn,i1,i0,hr,hd,hx⟩ hk hS
  exact⟨Cb,rfl,hN _ _ _ _ _ _ hn hk (fun y hy=>by simp [hS y hy]),i1,i0,(hk.block _ (Array.getElem?_eq_some_iff.1 hr).1 (fun hm=>i1 (hS _ hm))).trans hr,(hk.block _ (Array.getElem?_eq_some_iff.1 hd).1 (fun hm=>i0 (hS _ hm))).trans hd,hx⟩
 ·rintro I pre C W W' S ⟨Cb,c,rfl,hn,i1,i0,hr,hd,hx⟩ hk hS
  exact⟨Cb,c,rfl,hNx c _ _ _ _ _ _ hn hk (fun y hy=>by simp [hS y hy]),i1,i0,(hk.block _ (Array.getElem?_eq_some_iff.1 hr).1 (fun hm=>i1 (hS _ hm))).trans hr,(hk.block _ (Array.getElem?_eq_some_iff.1 hd).1 (fun hm=>i0 (hS _ hm))).trans hd,hx⟩
 ·rintro I pre C W ⟨Cb,rfl,hn,i1,i0,hr,hd,hx⟩ y hy
  have t1:=(Array.getElem?_eq_some_iff.1 hr).1
  have t2:=(Array.getElem?_eq_some_iff.1 hd).1
  rcases List.mem_cons.1 hy with rfl|hy
  ·exact t1
  rcases List.mem_cons.1 hy with rfl|hy
  ·exact t2
  ·exact hC _ _ _ _ hn y hy
 ·rintro I pre C W pk R L m c A k d ⟨Cb,rfl,hn,i1,i0,hr,hd,hx⟩ hpre hrc hIl
  have hlt:D+1<W.heap.size:=(Array.getElem?_eq_some_iff.1 hr).1
  have hy:=run_yield (P:=P) (args:=#[.int .i64 pk.o,recVal R L m c A k d]) hr (by rw[hrc'];simp [hps])
  rw[hrc']at hy
  refine⟨fn,_,assign,body,hy,roundIn_of_wpIn hfn (hround _ ((D+1)::I) pre Cb pk R L m c A k d W _ hn hpre (hrc.less (fun i hi=>by simp at hi ⊢;rcases hi with h|h|h<;>simp [h])) (List.forall_mem_cons.2 ⟨hlt,hIl⟩) ?_)⟩
  intro a' Wa C1 hC1 hka hb
  have ra:Wa.heap[D+1]? = some (.loop (rc .ready none)):=(hka.block _ hlt (by simp)).trans hr
  have da:Wa.heap[D]? = some (.deferred (some [])):=(hka.block _ (by omega) (by simp)).trans hd
  have hlta:D+1<Wa.heap.size:=(Array.getElem?_eq_some_iff.1 ra).1
  have hx1:D+1∉C1∧D∉C1:=⟨fun hm=>(hC1 _ hm).elim hx.2 (fun h=>by omega),fun hm=>(hC1 _ hm).elim hx.1 (fun h=>by omega)⟩
  refine⟨_,run_beginRound ra (by rw[hrc']),?_⟩
  obtain⟨Wb,hWb⟩:∃ Wb,Wa.putObj (D+1) (.loop {rc .ready none with state:= .busy})=Wb:=⟨_,rfl⟩
  have hkb:Kept [D+1] Wa Wb:=by rw[←hWb];exact kept_put _ _ _
  have rb:Wb.heap[D+1]? = some (.loop {rc .ready none with state:= .busy}):=by rw[←hWb];exact World.putObj_heap_same hlta
  have db:Wb.heap[D]? = some (.deferred (some [])):=(hkb.block _ (by omega) (by simp)).trans da
  rw[hWb]
  have hlast:∀ (jump:Option Code) (W3:World),Kept C1 Wb W3→(Instr.endRound (D+1) jump).run P W3= .ok (.bool jump.isNone) (W3.putObj (D+1) (.loop (rc (if jump.isNone then .ready else .done) jump)))∧
    (W3.putObj (D+1) (.loop (rc (if jump.isNone then .ready else .done) jump))).heap[D+1]? = some (.loop (rc (if jump.isNone then .ready else .done) jump))∧
    (W3.putObj (D+1) (.loop (rc (if jump.isNone then .ready else .done) jump))).heap[D]? = some (.deferred (some []))∧
    Kept ((D+1)::D::Cb) W (W3.putObj (D+1) (.loop (rc (if jump.isNone then .ready else .done) jump))):=fun jump W3 hk3=>by
   have r3:=(hk3.block _ (Array.getElem?_eq_some_iff.1 rb).1 hx1.1).trans rb
   have d3:=(hk3.block _ (Array.getElem?_eq_some_iff.1 db).1 hx1.2).trans db
   have he:=run_endRound (P:=P) jump r3
   rw[hrc']at he
   refine⟨by rw[hrc'];exact he,World.putObj_heap_same (Array.getElem?_eq_some_iff.1 r3).1,(World.putObj_heap_other (by omega)).trans d3,?_⟩
   refine((((hka.mono (S':=(D+1)::D::Cb) (by simp)).trans hkb (by simp)).trans hk3 (fun i hi=> ?_)).trans (kept_put _ _ _) (by simp))
   rcases hC1 i hi with h|h
   ·exact .inl (by simp [h])
   ·exact .inr h
  have hCC:∀ (C':List Nat),(∀ y∈C',y∈C1∨Wb.heap.size≤y)→(∀ y∈(D+1)::D::C',y∈(D+1)::D::Cb∨W.heap.size≤y)∧D∉C'∧D+1∉C':=fun C' hC'=>by
   have hs:W.heap.size≤Wb.heap.size:=Nat.le_trans hka.size hkb.size
   refine⟨fun y hy=> ?_,fun hm=>(hC' _ hm).elim hx1.2 (fun h=>by omega),fun hm=>(hC' _ hm).elim hx1.1 (fun h=>by omega)⟩
   rcases List.mem_cons.1 hy with rfl|hy
   ·exact .inl (by simp)
   rcases List.mem_cons.1 hy with rfl|hy
   ·exact .inl (by simp)
   rcases hC' y hy with h|h
   ·rcases hC1 y h with h|h
    ·exact .inl (by simp [h])
    ·exact .inr h
   ·exact .inr (by omega)
  refine wpIn_mono (hb Wb [D+1] hkb (by simp)) ?_
  rintro e a3 W3 hp
  cases e with
  | normal=>
   obtain⟨C',hC',hk3,hn3⟩:=hp
   obtain⟨he,r4,d4,hkk⟩:=hlast none W3 hk3
   obtain⟨hc1,hc2⟩:=hCC C' hC'
   exact⟨_,_,he,(D+1)::D::C',hc1,hkk,.inl ⟨rfl,C',rfl,hN _ _ _ _ _ _ hn3 (kept_put _ _ _) (by simp),i1,i0,r4,d4,hc2⟩⟩
  | ret=>
   obtain⟨C',hC',hk3,hn3⟩:=hp
   obtain⟨he,r4,d4,hkk⟩:=hlast (some .ret) W3 hk3
   obtain⟨hc1,hc2⟩:=hCC C' hC'
   exact⟨_,_,he,(D+1)::D::C',hc1,hkk,.inr ⟨rfl,C',_,rfl,hNx _ _ _ _ _ _ _ hn3 (kept_put _ _ _) (by simp),i1,i0,r4,d4,hc2⟩⟩
  | exit i=>
   obtain⟨C',hC',hk3,hn3⟩:=hp
   obtain⟨he,r4,d4,hkk⟩:=hlast (some (.exit i)) W3 hk3
   obtain⟨hc1,hc2⟩:=hCC C' hC'
   exact⟨_,_,he,(D+1)::D::C',hc1,hkk,.inr ⟨rfl,C',_,rfl,hNx _ _ _ _ _ _ _ hn3 (kept_put _ _ _) (by simp),i1,i0,r4,d4,hc2⟩⟩
  | goto i=>
   obtain⟨C',hC',hk3,hn3⟩:=hp
   obtain⟨he,r4,d4,hkk⟩:=hlast (some (.goto i)) W3 hk3
   obtain⟨hc1,hc2⟩:=hCC C' hC'
   exact⟨_,_,he,(D+1)::D::C',hc1,hkk,.inr ⟨rfl,C',_,rfl,hNx _ _ _ _ _ _ _ hn3 (kept_put _ _ _) (by simp),i1,i0,r4,d4,hc2⟩⟩
  | panic ch=>exact hp.elim
  | outgrown=>exact hp.elim
 ·rintro e W2 ⟨⟨v,rfl⟩,I,C',(⟨⟨Cb,rfl,hn,i1,i0,hr,hd,hx⟩,hg⟩|⟨pre,⟨Cb,c,rfl,hn,i1,i0,hr,hd,hx⟩,hg⟩)⟩
  ·have he:=run_endLoop (P:=P) hr (by rw[hrc'];simp)
   exact⟨none,_,by rw[he,hrc'],hdone D Cb _ (by omega) ⟨_,hN _ _ _ _ _ _ hn (kept_put _ _ _) (by simp)⟩ (hG _ _ _ _ _ hg (by omega) hr rfl) hx.1 ((World.putObj_heap_other (by omega)).trans hd)⟩
  ·have he:=run_endLoop (P:=P) hr (by rw[hrc'];simp)
   exact⟨some c,_,by rw[he,hrc'],hstop D Cb c pre _ (by omega) ⟨_,hNx _ _ _ _ _ _ _ hn (kept_put _ _ _) (by simp)⟩ (hG _ _ _ _ _ hg (by omega) hr rfl) hx.1 ((World.putObj_heap_other (by omega)).trans hd)⟩
end
end Go.Proofs.YtjkmahmoclobmaaGreat.sc
namespace Go.Proofs.YtjkmahmoclobmaaGreat.sc
open Go.RowKit mem base disk owns
open record (Rc RcIn RcAt)
open crc (PartsIn)
attribute [local go_sem] Oper.semAt_some
def FndIn (w:World)(S:List Nat):List (Ps×Rc)→List Value→Prop
 | [],xs=>xs=[]
 | (pk,R)::l,xs=>∃ L m c P k d rest,xs= .int .i64 pk.o:: .int .i64 R.m:: .int .i64 R.l:: .int .i64 R.p:: .slice L m c:: .slice P k d::rest∧RcIn w S L m P k R∧FndIn w S l rest
theorem FndIn.kept {w w':World}{S S':List Nat}(k:Kept S' w w')(hs:∀ i∈S',i∈S):∀ {l:List (Ps×Rc)} {xs:List Value},FndIn w S l xs→FndIn w' S l xs
 | [],_,h=>h
 | (_,_)::_,_,⟨L,m,c,P,n,d,rest,h1,h2,h3⟩=>⟨L,m,c,P,n,d,rest,h1,h2.kept k hs,h3.kept k hs⟩
theorem FndIn.away {w:World}{S S':List Nat}(hs:∀ i∈S',i∈S∨w.heap.size≤i):∀ {l:List (Ps×Rc)} {xs:List Value},FndIn w S l xs→FndIn w S' l xs
 | [],_,h=>h
 | (_,_)::_,_,⟨L,m,c,P,n,d,rest,h1,h2,h3⟩=>⟨L,m,c,P,n,d,rest,h1,h2.away hs,h3.away hs⟩
theorem FndIn.snoc {w:World}{S:List Nat}(pk:Ps)(R:Rc){L:Option Addr}{m c:Nat}{P:Option Addr}{k d:Nat}(hr:RcIn w S L m P k R):∀ {l:List (Ps×Rc)} {xs:List Value},FndIn w S l xs→FndIn w S (l++[(pk,R)]) (xs++[.int .i64 pk.o,.int .i64 R.m,.int .i64 R.l,.int .i64 R.p,.slice L m c,.slice P k d])
 | [],xs,h=>by
  have h':xs=[]:=h
  subst h'
  exact⟨L,m,c,P,k,d,[],rfl,hr,rfl⟩
 | (a,b)::l,xs,h=>by
  obtain⟨L',m',c',P',n',d',rest,rfl,h2,h3⟩:=h
  exact⟨L',m',c',P',n',d',_,rfl,h2,FndIn.snoc pk R hr h3⟩
theorem FndIn.len {w:World}{S:List Nat}:∀ {l:List (Ps×Rc)} {xs:List Value},FndIn w S l xs→xs.length=l.length*6
 | [],xs,h=>by have h':xs=[]:=h;rw[h'];rfl
 | (_,_)::l,_,⟨L,m,c,P,n,d,rest,h1,h2,h3⟩=>by rw[h1];have:=h3.len;simp;omega

theorem vals_put {w:World}{S:List Nat}{A:Option Addr}{vs:List Value}{i:Nat}{o o':Obj}(h:Vals w S A vs)(hi:w.heap[i]? = some o)(hc:o.isCells=false):Vals (w.putObj i o') [] A vs:=fun k v hv=>by
 obtain⟨ad,rfl,_,hcell⟩:=h k v hv
 refine⟨ad,rfl,by simp,?_⟩
 refine(World.cell?_of_block (World.putObj_heap_other ?_)).trans hcell
 intro e
 rw[block_of_add]at e
 unfold World.cell? at hcell
 rw[block_of_add,e,hi]at hcell
 cases o<;>first|(cases hc;done)|simp at hcell
theorem wpListIn_append_vals {Fc:Fence}{n:Nat}{P:Program}{ops:Array Oper}{rest:List Oper}{o:Oper}{a:Act}{w:World}{Q:Exit→Act→World→Prop}(hg:o.guard=none)(s x:Operand)(t:TypeId)
  (hop:o.op= .call {callee:= .builtin .append,args:=#[s,x],argTypes:=#[t,t]}) (base:Nat) (e:TypeId) (i:TypeInfo) (z:Value) (size bytes:Nat) (h1:P.underlying t=some (.slice e)) (h2:P.info? e=some i) (h3:i.zero=some z) (h4:i.size=size) (h5:i.bytes=bytes) (h6:z.cells.size=size) (h7:0<size)
  (v:Value) (k:Nat) (xs:List Value) (hs:a.eval s=v) (hown:w.ownsRow base e size v k xs) (S:List Nat) (A:Option Addr) (m c:Nat) (news:List Value) (hx:a.eval x= .slice A m c) (hn:news.length=m*size) (hv:Vals w S A news) (h1c:∀ u∈news,u.oneCell'=true)
  (b1:k+m≤maxLen) (b2:(k+m)*bytes≤140737488355328) (b3:base≤w.heap.size)
  (hK:∀ v' w',w'.ownsRow base e size v' (k+m) (xs++news)→Kept v.ownBlock.toList w w'→(v'.ownBlock=v.ownBlock∨v'.ownBlock=some w.heap.size)→wpListIn Fc n P ops Q rest (a.put o.dst v') w'):
  wpListIn Fc n P ops Q (o::rest) a w:=by
 refine wpListIn_plain hg fun K hK'=> ?_
 obtain⟨v',w',hrun,r1,r2,r3⟩:=run_append_vals (P:=P) base t o.type e i z size bytes h1 h2 h3 h4 h5 h6 h7 v k xs hown S A m c news hn hv h1c b1 b2 b3
 unfold Oper.wpIn
 refine⟨?_,?_⟩
 ·simp [Oper.about,hop,resolve,Target.leads,Sem.run_pure]
 ·rw[Oper.semAt_plain Fc _ _ (by rw[hop];intro c hc';cases hc')]
  simp [execOp,hop,resolve,invoke,builtin,hs,hx,hrun,Result.andThen]
  exact hK' _ _ (hK v' w' r1 ⟨r2.os,r2.tape,r2.output,r2.size,fun j hj hn=>r2.block j hj (fun e=>hn (by rw[←e];simp))⟩ r3)
def WalkN (bm b6 base:Nat)(most:Int)(I:List Nat)(pre:List (Ps×Rc))(C:List Nat)(W:World):Prop:=
 ∃ v xs,Blk W bm 3 #[.int .i64 most]∧Blk W b6 57 #[v]∧W.ownsRow base 119 6 v pre.length xs∧FndIn W (I++C) pre xs∧C=bm::b6::v.ownBlock.toList∧(∀ y∈C,y∉I)
theorem WalkN.abides (bm b6 base:Nat)(most:Int):Abides (WalkN bm b6 base most):=fun I pre C W W' S ⟨v,xs,h1,h2,h3,h4,h5,h6⟩ k hS=>by
 subst h5
 refine⟨v,xs,k.blk h1 (fun hm=>h6 bm (by simp) (hS _ hm)),k.blk h2 (fun hm=>h6 b6 (by simp) (hS _ hm)),own_keep h3 k (fun i hi hm=>h6 i (by simp [hm]) (hS i hi)),h4.kept k (fun i hi=>by simp [hS i hi]),rfl,h6⟩
theorem WalkN.lt {bm b6 base:Nat}{most:Int}{I:List Nat}{pre:List (Ps×Rc)}{C:List Nat}{W:World}(h:WalkN bm b6 base most I pre C W):∀ y∈C,y<W.heap.size:=by
 obtain⟨v,xs,h1,h2,h3,h4,rfl,h6⟩:=h
 intro y hy
 rcases List.mem_cons.1 hy with rfl|hy
 ·exact h1.lt
 rcases List.mem_cons.1 hy with rfl|hy
 ·exact h2.lt
 ·exact(own_blk h3 y hy).2.1
theorem parts_put {w:World}{S:List Nat}{vs:List Value}{bss:List (List UInt8)}{i:Nat}{o o':Obj}(h:PartsIn w S vs bss)(hi:w.heap[i]? = some o)(hc:o.isCells=false):PartsIn (w.putObj i o') [] vs bss:=
 ⟨h.1,fun j bs hb=>by
  obtain⟨Ai,ci,h4,h5,h6⟩:=h.2 j bs hb
  exact⟨Ai,ci,h4,h5,vals_put h6 hi hc⟩⟩
theorem FndIn.putObj {w:World}{S:List Nat}{i:Nat}{o o':Obj}(hi:w.heap[i]? = some o)(hc:o.isCells=false):∀ {l:List (Ps×Rc)} {xs:List Value},FndIn w S l xs→FndIn (w.putObj i o') [] l xs
 | [],_,h=>h
 | (_,_)::_,_,⟨L,m,c,P,n,d,rest,h1,h2,h3⟩=>⟨L,m,c,P,n,d,rest,h1,⟨h2.hn,h2.hk,vals_put h2.its hi hc,by
   obtain⟨vs,v1,v2⟩:=h2.bks
   exact⟨vs,parts_put v1 hi hc,vals_put v2 hi hc⟩⟩,FndIn.putObj hi hc h3⟩
theorem found_info:(Tryz.prog.info? 119).map (fun i=>(i.zero,i.size,i.bytes))=some (some (.agg #[.int .i64 0,.int .i64 0,.int .i64 0,.int .i64 0,.slice none 0 0,.slice none 0 0]),6,80):=by kernel_rfl

theorem walk_in (n:Nat)(hn:3≤n)(F:List Nat)(D:Dk)(hD:D.ok)(x:Nat)(dv:Option Addr)(a z:Int)(p:Ps)(hb:Bool)(e0:Ps)(er0:Int)(l:List (Ps×Rc))(E:Ps)(err most:Int)(w:World)(hl:scanOf D a z p hb=(l,E,err))(hm:(l.length:Int)≤most)(hl7:l.length≤1000)
  (hs:ScAt w x dv a z p hb e0 er0) (hv:Dsk w F dv z D) (hF:∀ y∈F,y<w.heap.size) (hxF:x∉F) (ha:0≤a∧a≤10000) (hz:0≤z∧z≤1000):
  CallsIn Fence.wide n Tryz.prog 25 #[.pointer (some ⟨x,0,none⟩),.int .i64 most] w fun e W'=>∃ v xs,e= .returned v∧W'.ownsRow w.heap.size 119 6 v l.length xs∧FndIn W' [] l xs∧ScAt W' x dv a z p hb E err∧Dsk W' F dv z D∧Kept [x] w W':=by
 have h1:1≤n:=by omega
 have hnf:∀ (cap:Array Value) (w:World),(binOp .eql 157 (.func (.func 148) #[] cap) Value.nilFunc).run Tryz.prog w= .ok (.bool false) w:=fun _ _=>rfl
 obtain⟨i0,hi,hz0,hz1,hz2⟩:=info_parts found_info
 have HS:=hide hs
 have HV:=hide hv
 have HF:=hide hF
 have HL:=sealed hl
 have HXL:=hide hs.lt
 clear hs hv hF hl
 refine callsIn_of_wp_marks Tryz.func25 rfl trivial ?_ rfl
 simp only[Tryz.ntmps25,List.size_toArray,List.length_cons,List.length_nil,Nat.reduceAdd,Nat.reduceSub,Array.replicate_succ,Array.replicate_zero,List.push_toArray,List.append_toArray,List.nil_append,List.cons_append]
 gi_wp2_with (refine⟨trivial,?_⟩;gi_at_call 84;refine(callsIn_wide.2 (records_any (some ⟨x,0,none⟩) _)).mono ?_;rintro e w' ⟨rfl,rfl⟩)
 obtain⟨bm,hbm⟩:∃ bm,w.heap.size=bm:=⟨_,rfl⟩
 have k1:Kept [] w (((w.alloc (.cells #[.int .i64 most] 3)).alloc (.cells #[.pointer (some ⟨x,0,none⟩)] 49)).alloc (.cells #[.slice none 0 0] 57)):=(((Kept.refl [] w).alloc _).alloc _).alloc _
 have B1:=((Blk.new w 3 #[.int .i64 most]).alloc (.cells #[.pointer (some ⟨x,0,none⟩)] 49)).alloc (.cells #[.slice none 0 0] 57)
 have B2:=(Blk.new (w.alloc (.cells #[.int .i64 most] 3)) 49 #[.pointer (some ⟨x,0,none⟩)]).alloc (.cells #[.slice none 0 0] 57)
 have B3:=Blk.new ((w.alloc (.cells #[.int .i64 most] 3)).alloc (.cells #[.pointer (some ⟨x,0,none⟩)] 49)) 57 #[.slice none 0 0]
 have hsA:(((w.alloc (.cells #[.int .i64 most] 3)).alloc (.cells #[.pointer (some ⟨x,0,none⟩)] 49)).alloc (.cells #[.slice none 0 0] 57)).heap.size=bm+1+1+1:=by simp [hbm]
 simp only[World.size_alloc]at B2 B3
 rw[hbm]at B1 B2 B3
 have HXB:=hide (show x<bm by have:=HXL.out;omega)
 have HFB:Hid (∀ y∈F,y<bm):=hide (fun y hy=>by have:=HF.out y hy;omega)
 have HBM:=hide hbm
 simp only[hbm]
 generalize (((w.alloc (.cells #[.int .i64 most] 3)).alloc (.cells #[.pointer (some ⟨x,0,none⟩)] 49)).alloc (.cells #[.slice none 0 0] 57))=wA at k1 B1 B2 B3 hsA ⊢
 refine range_recs (w:=wA) h1 (gf:=148) (lb:=#[.pointer (some ⟨bm+1,0,none⟩)]) rfl (enters_of Tryz.func148 (by kernel_rfl) rfl) rfl l
  (fun I W=>∃ q,W.heap.size≤q∧I=[q,x]) [bm,bm+1+1] (fun o W=>o=none→ScAt W x dv a z p hb E err∧Dsk W F dv z D∧Kept [x] w W) (WalkN bm (bm+1+1) (bm+1+1+1) most) (fun _ _ _ _ _=>False)
  (WalkN.abides _ _ _ _) (fun _ _ _ _ _ _ _ h _ _=>h) (fun _ _ _ _ h=>h.lt) ?hG ?hseq ?hI0 ?hC0 ?h0 ?hround ?hdone ?hstop
 case hG=>
  rintro b W i o o' hg hi ho hc hb
  obtain⟨g1,g2,g3⟩:=hg hb
  have:=HXB.out
  exact⟨g1.kept (kept_put W i o') (by simp;omega),g2.kept (kept_put W i o') (fun y hy hm=>by have:=HFB.out y hy;simp at hm;omega),g3.trans (kept_put W i o') (fun y hy=>by simp at hy;subst hy;exact .inr (by have:=HBM.out;omega))⟩
 case hseq=>
  intro lp J Jx hJ hJx hJC hY W hK hsz hJ0
  have hx:=HXB.out
  have hle:=hK.size
  refine(recs_any (n-1) F D hD lp (bm+1) x dv a z p hb e0 er0 l E err [] J Jx hJ hJx hJC HL.out (fun q pre C W pk R L m c A k d hj hp hr hl=>hY _ pre C W pk R L m c A k d hj hp hr hl) W ((wA.heap.size+1)::wA.heap.size::[bm,bm+1+1]) (fun q hq=>hJ0 [q,x] ⟨q,hq,rfl⟩) (by simp) (by simp;omega) ⟨by simp;omega,by simp;omega,fun y hy=>by have:=HFB.out y hy;simp;omega⟩
   (hK.blk B2 (by simp)) ((HS.out.kept k1 (by simp)).kept hK (by simp)) ((HV.out.kept k1 (by simp)).kept hK (by simp)) (fun y hy=>by have:=HFB.out y hy;omega) hxF (fun hm=>by have:=HFB.out _ hm;omega) (by omega) ha hz).mono ?_
  rintro e W' ⟨hv,hkk,q,C,hap,hd,(⟨hn,hsc⟩|⟨pre,pk,ov,_,_,_,hnx,_⟩)⟩
  ·refine⟨hv,_,C,.inl ⟨hn,fun _=>⟨hsc,hd,?_⟩⟩⟩
   refine((k1.trans hK (by simp)).mono (S':=[x]) (by simp)).trans hkk (fun y hy=> ?_)
   simp at hy
   have:=HBM.out
   rcases hy with h|h|h|h|h
   ·exact .inl (by simp [h])
   all_goals exact .inr (by omega)
  ·exact⟨hv,_,C,.inr ⟨pre,hnx,fun h=>by cases h⟩⟩
 case hI0=>
  rintro I W hk hsz ⟨q,hq,rfl⟩
  have:=HXB.out
  simp
  omega
 case hC0=>simp;omega
 case h0=>
  rintro I W hk hsz ⟨q,hq,rfl⟩
  have:=HXB.out
  refine⟨.slice none 0 0,[],hk.blk B1 (by simp),hk.blk B3 (by simp),World.ownsRow_nil _ _ _ _,rfl,by simp [Value.ownBlock],?_⟩
  simp
  omega
 case hround=>
  rintro lp I pre C pk R L m c A k d W K ⟨v,xs,b1,b6,hown,hfnd,rfl,hCI⟩ hpre hrc hIl hKK
  obtain⟨A1,cc,hvs,_,_⟩:=own_read hown
  subst hvs
  have HKK:=hide hKK
  clear hKK
  unfold recVal
  gi_wp2
  have hka:=(Kept.refl [] W).alloc (.cells #[.int .i64 R.m,.int .i64 R.l,.int .i64 R.p,.slice L m c,.slice A k d] 111)
  have hbr:=Blk.new W 111 #[.int .i64 R.m,.int .i64 R.l,.int .i64 R.p,.slice L m c,.slice A k d]
  obtain⟨rr,hrr⟩:∃ rr,W.heap.size=rr:=⟨_,rfl⟩
  rw[hrr]at hbr ⊢
  refine HKK.out _ _ _ (fun y hy=> .inl hy) hka ?_
  intro W2 S hk2 hS
  have hrI:rr∉I:=fun hm=>by have:=hIl rr hm;omega
  have B1':=hk2.blk (hka.blk b1 (by simp)) (fun hm=>hCI bm (by simp) (hS _ hm))
  have B6':=hk2.blk (hka.blk b6 (by simp)) (fun hm=>hCI (bm+1+1) (by simp) (hS _ hm))
  have hown':=own_keep (own_keep hown hka (by simp)) hk2 (fun i hi hm=>hCI i (by simp [hm]) (hS i hi))
  have hfnd':=(hfnd.kept hka (by simp)).kept hk2 (fun i hi=>by simp [hS i hi])
  have hrc':=(hrc.kept hka (by simp)).kept hk2 (fun i hi=>by simp [hS i hi])
  have hbr':=hk2.blk hbr (fun hm=>hrI (hS _ hm))
  have hlen:pre.length<l.length:=by
   have:=hpre.length_le
   simp at this
   omega
  have hlt:¬(most≤(pre.length:Int)):=by omega
  obtain⟨r0,r1,r2,r3,r4⟩:=record.cell5 hbr'
  have c6:W2.cell? ⟨bm+1+1,0,none⟩=some (.slice A1 pre.length cc):=B6'.cell 0
  have c1:W2.cell? ⟨bm,0,none⟩=some (.int .i64 most):=B1'.cell 0
  have HO':=hide hown'
  have HF':=hide hfnd'
  have HR':=hide hrc'
  have HB1:=hide B1'
  have HB6:=hide B6'
  have HCI:=hide hCI
  have HIL:=hide hIl
  have HW2:=hide (show(∀ y∈I,y<W2.heap.size)∧bm+1+1+1≤W2.heap.size from⟨fun y hy=>Nat.lt_of_lt_of_le (hIl y hy) (Nat.le_trans hka.size hk2.size),B6'.lt⟩)
  have hb2:=HW2.out.2
  clear hown hfnd hrc hka hbr hk2 hS hown' hfnd' hrc' hbr' B1' B6' b1 b6 hCI hIl HKK hpre hrI
  gi_wp2_with (gi_at_builtin;refine wpListIn_append_vals rfl _ _ 57 rfl (bm+1+1+1) 119 i0 (.agg #[.int .i64 0,.int .i64 0,.int .i64 0,.int .i64 0,.slice none 0 0,.slice none 0 0]) 6 80 Tryz.underlying57 hi hz0 hz1 hz2 rfl (by decide) _ _ _ rfl (own_keep HO'.out ((Kept.refl [] W2).alloc _) (by simp)) [] (some ⟨W2.heap.size,0,none⟩) 1 1 [.int .i64 pk.o,.int .i64 R.m,.int .i64 R.l,.int .i64 R.p,.slice L m c,.slice A k d] rfl rfl (Vals.lit W2 [] _ _ _ _ rfl (by simp)) (by simp [Value.oneCell']) (by simp only[maxLen];omega) (by omega) (by rw[World.size_alloc];omega) ?_;intro v' w1 hown1 hk1 hat1;obtain⟨g',cap',rfl⟩:=ownsRow_succ hown1;have hfar:∀ i∈(Value.slice A1 pre.length cc).ownBlock.toList,bm+1+1+1≤i:=fun i hi=>(own_blk HO'.out i hi).1;have hb61:=hk1.blk (HB6.out.alloc _) (fun hm=>by have:=hfar _ hm;omega);have hc61:w1.cell? ⟨bm+1+1,0,none⟩=some (.slice A1 pre.length cc):=hb61.cell 0;have hf61:=hb61.frozen 0)
  have hks:=(Kept.refl [bm+1+1] w1).set_ (b:=bm+1+1) (.inl (by simp)) 0 (.slice (some ⟨g',0,none⟩) (pre.length+1) cap')
  have hkt:Kept (bm::(bm+1+1)::(Value.slice A1 pre.length cc).ownBlock.toList) W2 (w1.setCell ⟨bm+1+1,0,none⟩ (.slice (some ⟨g',0,none⟩) (pre.length+1) cap')):=
   ((((Kept.refl _ W2).alloc _).trans hk1 (fun i hi=> .inl (by simp only[List.mem_cons];exact .inr (.inr hi))))).trans hks (fun i hi=> .inl (by simp at hi;simp [hi]))
  have hgb:=(own_blk hown1 g' (by simp [Value.ownBlock])).1
  have hgn:g'∈(Value.slice A1 pre.length cc).ownBlock.toList∨W2.heap.size≤g':=by
   rcases hat1 with h|h
   ·have h':(Value.slice (some ⟨g',0,none⟩) (pre.length+1) cap').ownBlock=(Value.slice A1 pre.length cc).ownBlock:=h
    exact .inl (by rw[←h'];simp [Value.ownBlock])
   ·simp [Value.ownBlock]at h
    exact .inr (by omega)
  have hgI:g'∉I:=fun hm=>hgn.elim (fun h=>HCI.out g' (by simp only[List.mem_cons];exact .inr (.inr h)) hm) (fun h=>by have:=HW2.out.1 g' hm;omega)
  have hsub:∀ y∈bm::(bm+1+1)::(Value.slice (some ⟨g',0,none⟩) (pre.length+1) cap').ownBlock.toList,y∈bm::(bm+1+1)::(Value.slice A1 pre.length cc).ownBlock.toList∨W2.heap.size≤y:=by
   intro y hy
   simp only[List.mem_cons]at hy ⊢
   rcases hy with h|h|h
   ·exact .inl (.inl h)
   ·exact .inl (.inr (.inl h))
   ·simp [Value.ownBlock]at h
    subst h
    exact hgn.imp (fun h=> .inr (.inr h)) id
  have hold:∀ y∈I++(bm::(bm+1+1)::(Value.slice (some ⟨g',0,none⟩) (pre.length+1) cap').ownBlock.toList),y∈I++(bm::(bm+1+1)::(Value.slice A1 pre.length cc).ownBlock.toList)∨W2.heap.size≤y:=fun y hy=>by
   rcases List.mem_append.1 hy with hy|hy
   ·exact .inl (List.mem_append_left _ hy)
   ·exact(hsub y hy).imp (fun h=>List.mem_append_right _ h) id
  have hF2:FndIn W2 (I++(bm::(bm+1+1)::(Value.slice A1 pre.length cc).ownBlock.toList)) (pre++[(pk,R)]) (xs++[.int .i64 pk.o,.int .i64 R.m,.int .i64 R.l,.int .i64 R.p,.slice L m c,.slice A k d]):=FndIn.snoc pk R HR'.out HF'.out
  have hF3:=((hF2.away (S':=(bm::(bm+1+1)::(Value.slice A1 pre.length cc).ownBlock.toList)++(I++(bm::(bm+1+1)::(Value.slice (some ⟨g',0,none⟩) (pre.length+1) cap').ownBlock.toList))) (fun y hy=>(List.mem_append.1 hy).elim (fun h=> .inl (List.mem_append_right _ h)) (hold y))).kept hkt (fun y hy=>List.mem_append_left _ hy)).away (S':=I++(bm::(bm+1+1)::(Value.slice (some ⟨g',0,none⟩) (pre.length+1) cap').ownBlock.toList)) (fun y hy=> .inl (List.mem_append_right _ hy))
  refine⟨_,hsub,hkt,_,_,hks.blk (hk1.blk (HB1.out.alloc _) (fun hm=>by have:=hfar _ hm;omega)) (by simp;omega),hb61.set_ 0 _,?_,hF3,rfl,?_⟩
  ·rw[List.length_append]
   exact own_keep hown1 hks (fun i hi hm=>by have:=(own_blk hown1 i hm).1;simp at hi;omega)
  ·intro y hy hm
   simp only[List.mem_cons]at hy
   rcases hy with h|h|h
   ·rw[h]at hm;exact HCI.out bm (by simp) hm
   ·rw[h]at hm;exact HCI.out (bm+1+1) (by simp) hm
   ·simp [Value.ownBlock]at h
    subst h
    exact hgI hm
 case hdone=>
  rintro D2 C W hD2 ⟨I,v,xs,b1,b6,hown,hfnd,rfl,hCI⟩ hg hDC hK
  obtain⟨hsc,hdv,hkx⟩:=hg rfl
  have c6:W.cell? ⟨bm+1+1,0,none⟩=some v:=b6.cell 0
  have HO:=hide hown
  have HFN:=hide hfnd
  have HSC:=hide hsc
  have HDV:=hide hdv
  have HKX:=hide hkx
  have HDW:=hide (show w.heap.size≤D2 by have:=HBM.out;omega)
  clear hown hfnd hsc hdv hkx hg hDC b1 b6 hCI
  gi_wp2
  refine⟨by simp,.inl ⟨_,_,rfl,run_takeDeferred hK,?_⟩⟩
  have hkp:Kept [D2] W (W.putObj D2 (.deferred none)):=kept_put _ _ _
  have hcell:∀ (y:Nat),y∈v.ownBlock.toList→y≠D2:=fun y hy e=>by
   obtain⟨_,_,cur,hc⟩:=own_blk HO.out y hy
   subst e
   rw[show W.heap[y]? = _ from hc]at hK
   cases hK
  refine⟨_,results_tmp rfl _ _ _,v,xs,rfl,own_low (own_keep HO.out hkp (fun i hi hm=>by simp at hi;subst hi;exact hcell _ hm rfl)) (by have:=HBM.out;omega),?_,HSC.out.kept hkp (by have:=HXB.out;have:=HBM.out;have:=HDW.out;simp;omega),HDV.out.kept hkp (fun y hy hm=>by have:=HFB.out y hy;have:=HBM.out;have:=HDW.out;simp at hm;omega),HKX.out.trans hkp (fun y hy=>by simp at hy;subst hy;exact .inr HDW.out)⟩
  exact FndIn.putObj hK rfl HFN.out
 case hstop=>
  rintro D C c pre W hD ⟨I,h⟩ _ _ _
  exact h.elim

theorem walk_any (F:List Nat)(D:Dk)(hD:D.ok)(x:Nat)(dv:Option Addr)(a z:Int)(p:Ps)(hb:Bool)(e0:Ps)(er0:Int)(l:List (Ps×Rc))(E:Ps)(err most:Int)(w:World)(hl:scanOf D a z p hb=(l,E,err))(hm:(l.length:Int)≤most)(hl7:l.length≤1000)
  (hs:ScAt w x dv a z p hb e0 er0) (hv:Dsk w F dv z D) (hF:∀ y∈F,y<w.heap.size) (hxF:x∉F) (ha:0≤a∧a≤10000) (hz:0≤z∧z≤1000):
  Calls Tryz.prog 25 #[.pointer (some ⟨x,0,none⟩),.int .i64 most] w fun e W'=>∃ A c xs,e= .returned (.slice A l.length c)∧l.length≤c∧Vals W' [] A xs∧FndIn W' [] l xs∧ScAt W' x dv a z p hb E err∧Dsk W' F dv z D∧Kept [x] w W':=
 (callsIn_wide.1 (walk_in 3 (Nat.le_refl _) F D hD x dv a z p hb e0 er0 l E err most w hl hm hl7 hs hv hF hxF ha hz)).mono fun _ _ ⟨v,xs,he,ho,hf,hsc,hd,hk⟩=>by
  obtain⟨A,c,rfl,hc,hv⟩:=own_read ho
  exact⟨A,c,xs,he,hc,hv [] (by simp),hf,hsc,hd,hk⟩
end Go.Proofs.YtjkmahmoclobmaaGreat.sc
namespace Go.Proofs.YtjkmahmoclobmaaGreat.sc
open Go.RowKit mem base disk owns
open record (Rc RcIn RcAt)
open crc (PartsIn)
attribute [local go_sem] Oper.semAt_some
theorem recs_nil (n:Nat)(lp Bs:Nat)(W:World)(hbox:Blk W Bs 49 #[.pointer none]):
  CallsIn Fence.wide n Tryz.prog 148 #[.func (.yield lp) #[] #[],.pointer (some ⟨Bs,0,none⟩)] W fun e W'=>(∃ v,e= .returned v)∧Kept [] W W':=by
 have hc0:W.cell? ⟨Bs,0,none⟩=some (.pointer none):=hbox.cell 0
 refine callsIn_of_wp Tryz.func148 rfl trivial ?_ rfl
 simp only[Tryz.ntmps148,List.size_toArray,List.length_cons,List.length_nil,Nat.reduceAdd,Nat.reduceSub,Array.replicate_succ,Array.replicate_zero,List.push_toArray,List.append_toArray,List.nil_append,List.cons_append]
 have hmx:Tryz.prog.follows .mixedOrders=true:=by kernel_rfl
 gi_wp2
 refine bodyPost_ret (v:= .tuple #[]) ?_ rfl ⟨⟨_,rfl⟩,Kept.refl _ _⟩
 simp [results,Tryz.results148,go_sem]

theorem walk_nil (n:Nat)(hn:3≤n)(most:Int)(w:World):
  CallsIn Fence.wide n Tryz.prog 25 #[.pointer none,.int .i64 most] w fun e W'=>∃ c,e= .returned (.slice none 0 c)∧Kept [] w W':=by
 have h1:1≤n:=by omega
 have hnf:∀ (cap:Array Value) (w:World),(binOp .eql 157 (.func (.func 148) #[] cap) Value.nilFunc).run Tryz.prog w= .ok (.bool false) w:=fun _ _=>rfl
 refine callsIn_of_wp_marks Tryz.func25 rfl trivial ?_ rfl
 simp only[Tryz.ntmps25,List.size_toArray,List.length_cons,List.length_nil,Nat.reduceAdd,Nat.reduceSub,Array.replicate_succ,Array.replicate_zero,List.push_toArray,List.append_toArray,List.nil_append,List.cons_append]
 gi_wp2_with (refine⟨trivial,?_⟩;gi_at_call 84;refine(callsIn_wide.2 (records_any none _)).mono ?_;rintro e w' ⟨rfl,rfl⟩)
 obtain⟨bm,hbm⟩:∃ bm,w.heap.size=bm:=⟨_,rfl⟩
 have k1:Kept [] w (((w.alloc (.cells #[.int .i64 most] 3)).alloc (.cells #[.pointer none] 49)).alloc (.cells #[.slice none 0 0] 57)):=(((Kept.refl [] w).alloc _).alloc _).alloc _
 have B2:=(Blk.new (w.alloc (.cells #[.int .i64 most] 3)) 49 #[.pointer none]).alloc (.cells #[.slice none 0 0] 57)
 have B3:=Blk.new ((w.alloc (.cells #[.int .i64 most] 3)).alloc (.cells #[.pointer none] 49)) 57 #[.slice none 0 0]
 have hsA:(((w.alloc (.cells #[.int .i64 most] 3)).alloc (.cells #[.pointer none] 49)).alloc (.cells #[.slice none 0 0] 57)).heap.size=bm+1+1+1:=by simp [hbm]
 simp only[World.size_alloc]at B2 B3
 rw[hbm]at B2 B3
 have HBM:=hide hbm
 simp only[hbm]
 generalize (((w.alloc (.cells #[.int .i64 most] 3)).alloc (.cells #[.pointer none] 49)).alloc (.cells #[.slice none 0 0] 57))=wA at k1 B2 B3 hsA ⊢
 refine range_recs (w:=wA) h1 (gf:=148) (lb:=#[.pointer (some ⟨bm+1,0,none⟩)]) rfl (enters_of Tryz.func148 (by kernel_rfl) rfl) rfl []
  (fun I _=>I=[]) [] (fun o W=>o=none→Kept [] w W) (fun I _ C W=>C=[]∧bm+1+1∉I∧Blk W (bm+1+1) 57 #[.slice none 0 0]) (fun _ _ _ _ _=>False)
  (fun I pre C W W' S ⟨h1,h2,h3⟩ k hS=>⟨h1,h2,k.blk h3 (fun hm=>h2 (hS _ hm))⟩) (fun _ _ _ _ _ _ _ h _ _=>h) (fun _ _ _ _ h=>by rw[h.1];simp) ?hG ?hseq ?hI0 ?hC0 ?h0 ?hround ?hdone ?hstop
 case hG=>
  rintro b W i o o' hg hi ho hc hb
  exact(hg hb).trans (kept_put W i o') (fun y hy=>by simp at hy;subst hy;exact .inr (by have:=HBM.out;omega))
 case hseq=>
  intro lp J Jx hJ hJx hJC hY W hK hsz hJ0
  refine(recs_nil (n-1) lp (bm+1) W (hK.blk B2 (by simp))).mono ?_
  rintro e W' ⟨hv,hkk⟩
  exact⟨hv,[],_,.inl ⟨hJ _ _ _ _ _ [] (hJ0 [] rfl) hkk (by simp),fun _=>(k1.trans hK (by simp)).trans hkk (by simp)⟩⟩
 case hI0=>
  rintro I W hk hsz rfl
  simp
 case hC0=>simp
 case h0=>
  rintro I W hk hsz rfl
  refine⟨rfl,by simp;omega,hk.blk B3 (by simp)⟩
 case hround=>
  rintro lp I pre C pk R L m c A k d W K _ hpre
  exact absurd (List.IsPrefix.length_le hpre) (by simp)
 case hdone=>
  rintro D2 C W hD2 ⟨I,rfl,hI,b6⟩ hg hDC hK
  have c6:W.cell? ⟨bm+1+1,0,none⟩=some (.slice none 0 0):=b6.cell 0
  have HKX:=hide (hg rfl)
  clear hg hDC b6 hI
  gi_wp2
  refine⟨by simp,.inl ⟨_,_,rfl,run_takeDeferred hK,?_⟩⟩
  exact⟨_,results_tmp rfl _ _ _,0,rfl,HKX.out.trans (kept_put W D2 (.deferred none)) (fun y hy=>by simp at hy;subst hy;exact .inr (by have:=HBM.out;omega))⟩
 case hstop=>
  rintro D C c pre W hD ⟨I,h⟩ _ _ _
  exact h.elim
theorem walk_none (most:Int)(w:World):Calls Tryz.prog 25 #[.pointer none,.int .i64 most] w fun e W'=>∃ c,e= .returned (.slice none 0 c)∧Kept [] w W':=
 callsIn_wide.1 (walk_nil 3 (Nat.le_refl _) most w)
end Go.Proofs.YtjkmahmoclobmaaGreat.sc
