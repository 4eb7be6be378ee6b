import Derived.Test.YtjkmahmoclobmaaGreatYScanNextCore
import Derived.Test.YtjkmahmoclobmaaGreatYGeomOps
import Derived.RangeFuncNested
import Derived.RangeFuncBound
import Derived.RangeFuncCalls
import Derived.RangeFuncLeaves
import Derived.Shelf.Abstract
import Derived.Shelf.RegionOpen
import Derived.WalkKit
import Derived.OwnWalkIn
import Derived.TacticsInMore
import Derived.LoopNIn
import Derived.LoopIn
import Derived.Test.YtjkmahmoclobmaaGreatYRecordCore
set_option linter.unusedSimpArgs false
set_option maxRecDepth 100000
set_option maxHeartbeats 1000000
namespace Go.Proofs.YtjkmahmoclobmaaGreat.sc
open Go.RowKit mem base disk geom
theorem field_l (a c z:Int)(w:World):(Instr.field 29 (.agg #[.int .i64 a,.int .i64 c,.int .i64 z]) 2).run Tryz.prog w= .ok (.int .i64 z) w:=by kernel_rfl
def ofSeg (dv:Option Addr)(s l r q a:Int):Option Addr×Int×Int:=if 0≤a∧a≤s-1 then(dv,segAt s l r q a,l)else(none,0,0)
theorem seg_bd {w:World}{p:Nat}{b s l r q a:Int}(h:GAt w p b s l r q)(ha:0≤a∧a≤s-1):0≤segAt s l r q a∧segAt s l r q a≤2500:=by
 have hb:=h.bounds;have hs:=h.ok;unfold Ok at hs
 have:=mul_le (i:=a) (s:=s) (l:=l) ha.1 (by omega) (by omega) (by omega) (by omega)
 unfold segAt;rw[if_pos ha]
 omega

theorem of_any (dv:Option Addr)(p:Nat)(b s l r q a:Int)(w:World)(h:GAt w p b s l r q):
  Calls Tryz.prog 78 #[.pointer dv,.pointer (some ⟨p,0,none⟩),.int .i64 a] w fun e w'=>e= .returned (.agg #[.pointer (ofSeg dv s l r q a).1,.int .i64 (ofSeg dv s l r q a).2.1,.int .i64 (ofSeg dv s l r q a).2.2])∧Kept [] w w':=by
 have hk0:=(Kept.refl [] w).alloc (.cells #[.pointer none,.int .i64 0,.int .i64 0] 143);have hb0:=Blk.new w 143 #[.pointer none,.int .i64 0,.int .i64 0];obtain⟨g,hg⟩:∃ g,w.heap.size=g:=⟨_,rfl⟩;rw[hg]at hb0;have HG:=hide (Nat.le_of_eq hg);have H:=hide (h.kept hk0);have HK0:=hide hk0;have HB0:=hide hb0
 by_cases ha:0≤a∧a≤s-1
 ·have hbd:=seg_bd h ha;have HE:Hid (ofSeg dv s l r q a=(dv,segAt s l r q a,l)):=hide (if_pos ha);clear h hk0 hb0 ha;go_enter Tryz.func78,Tryz.ntmps78;go_wp2_with fail;refine(seg_any p b s l r q a _ H.out).mono ?_;rintro e w1 ⟨rfl,hk1⟩;have H1:=hide (H.out.kept hk1);have HK1:=hide (HK0.out.trans hk1 (by simp));have HB1:=hide (hk1.blk HB0.out (by simp));clear hk1 H HK0 HB0;generalize segAt s l r q a=y at hbd HE ⊢;have hy1:=hbd.1;have hy2:=hbd.2;go_wp2_with fail;refine(config_at p b s l r q _ H1.out).mono ?_;rintro e w2 ⟨rfl,hk2⟩;have HK2:=hide (HK1.out.trans hk2 (by simp));have HB2:=hide (hk2.blk HB1.out (by simp));have hfl:=field_l b s l w2;have c0:=HB2.out.cell 0;have c1:=HB2.out.cell 1;have c2:=HB2.out.cell 2;have f0:=HB2.out.frozen 0;have f1:=HB2.out.frozen 1;have f2:=HB2.out.frozen 2;have HBW:=hide (((HB2.out.set_ 0 (.pointer dv)).set_ 1 (.int .i64 y)).set_ 2 (.int .i64 l));have HKW:=hide (((HK2.out.set_ (b:=g) (.inr HG.out) 0 (.pointer dv)).set_ (b:=g) (.inr HG.out) 1 (.int .i64 y)).set_ (b:=g) (.inr HG.out) 2 (.int .i64 l));clear hk2;go_wp2;generalize (((w2.setCell ⟨g,0,none⟩ (.pointer dv)).setCell ⟨g,1,none⟩ (.int .i64 y)).setCell ⟨g,2,none⟩ (.int .i64 l))=W at HBW HKW ⊢;have t0:W.cell? ⟨g,0,none⟩=some (.pointer dv):=HBW.out.cell 0;have t1:W.cell? ⟨g,1,none⟩=some (.int .i64 y):=HBW.out.cell 1;have t2:W.cell? ⟨g,2,none⟩=some (.int .i64 l):=HBW.out.cell 2;refine bodyPost_ret (v:= .agg #[.pointer dv,.int .i64 y,.int .i64 l]) ?_ rfl ⟨by rw[HE.out],HKW.out⟩
  simp [results,Tryz.results78,go_sem,t0,t1,t2]
 ·have HE:Hid (ofSeg dv s l r q a=(none,0,0)):=hide (if_neg ha);have HY:Hid (segAt s l r q a= -1):=hide (if_neg ha);clear h hk0 hb0 ha;go_enter Tryz.func78,Tryz.ntmps78;go_wp2_with fail;refine(seg_any p b s l r q a _ H.out).mono ?_;rintro e w1 ⟨rfl,hk1⟩;rw[HY.out];have HK1:=hide (HK0.out.trans hk1 (by simp));have HB1:=hide (hk1.blk HB0.out (by simp));have c0:=HB1.out.cell 0;have c1:=HB1.out.cell 1;have c2:=HB1.out.cell 2;have f0:=HB1.out.frozen 0;have f1:=HB1.out.frozen 1;have f2:=HB1.out.frozen 2;have HBW:=hide (((HB1.out.set_ 0 (.pointer none)).set_ 1 (.int .i64 0)).set_ 2 (.int .i64 0));have HKW:=hide (((HK1.out.set_ (b:=g) (.inr HG.out) 0 (.pointer none)).set_ (b:=g) (.inr HG.out) 1 (.int .i64 0)).set_ (b:=g) (.inr HG.out) 2 (.int .i64 0));clear hk1 H HK0 HB0;go_wp2;generalize (((w1.setCell ⟨g,0,none⟩ (.pointer none)).setCell ⟨g,1,none⟩ (.int .i64 0)).setCell ⟨g,2,none⟩ (.int .i64 0))=W at HBW HKW ⊢;have t0:W.cell? ⟨g,0,none⟩=some (.pointer none):=HBW.out.cell 0;have t1:W.cell? ⟨g,1,none⟩=some (.int .i64 0):=HBW.out.cell 1;have t2:W.cell? ⟨g,2,none⟩=some (.int .i64 0):=HBW.out.cell 2;refine bodyPost_ret (v:= .agg #[.pointer none,.int .i64 0,.int .i64 0]) ?_ rfl ⟨by rw[HE.out],HKW.out⟩
  simp [results,Tryz.results78,go_sem,t0,t1,t2]

theorem nwheld {w0 W W':World}{a1 a2 a3 a4 a5:Addr}{v1 v2 v3 v4 v5:Value}(h:Kept [] w0 W∧W.cell? a1=some v1∧W.cell? a2=some v2∧W.cell? a3=some v3∧W.cell? a4=some v4∧W.cell? a5=some v5)(hk:Kept [] W W'):
  Kept [] w0 W'∧W'.cell? a1=some v1∧W'.cell? a2=some v2∧W'.cell? a3=some v3∧W'.cell? a4=some v4∧W'.cell? a5=some v5:=by
 obtain⟨h0,h1,h2,h3,h4,h5⟩:=h;exact⟨h0.trans hk (by simp),hk.cell h1 (by simp),hk.cell h2 (by simp),hk.cell h3 (by simp),hk.cell h4 (by simp),hk.cell h5 (by simp)⟩

theorem new_any (d:Nat)(gp:Nat)(b s l r q:Int)(p:Ps)(w:World)(h:GAt w gp b s l r q):
  Calls Tryz.prog 20 #[.pointer (some ⟨d,0,none⟩),.pointer (some ⟨gp,0,none⟩),p.val] w fun e w'=>∃ x,e= .returned (.pointer (some ⟨x,0,none⟩))∧w.heap.size≤x∧
   ScAt w' x (ofSeg (some ⟨d,0,none⟩) s l r q p.s).1 (ofSeg (some ⟨d,0,none⟩) s l r q p.s).2.1 (ofSeg (some ⟨d,0,none⟩) s l r q p.s).2.2 p false p 0∧Kept [] w w':=by
 have hk0:=(Kept.refl [] w).alloc (.cells #[.int .i64 p.s,.int .i64 p.o,.int .i64 p.l,.int .i64 p.v,.int .i64 p.m] 24);have hb0:=Blk.new w 24 #[.int .i64 p.s,.int .i64 p.o,.int .i64 p.l,.int .i64 p.v,.int .i64 p.m];obtain⟨g,hg⟩:∃ g,w.heap.size=g:=⟨_,rfl⟩;rw[hg]at hb0;have HG:=hide (Nat.le_of_eq hg);obtain⟨w0,hw0⟩:∃ w0,w.alloc (.cells #[.int .i64 p.s,.int .i64 p.o,.int .i64 p.l,.int .i64 p.v,.int .i64 p.m] 24)=w0:=⟨_,rfl⟩;have H:=hide (h.kept hk0);rw[hw0]at hb0 hk0 H;have HB0:=hide hb0;have HK0:=hide hk0;have HST:=hide (show Kept [] w0 w0.drew∧w0.drew.cell? ⟨g,0,none⟩=some (.int .i64 p.s)∧w0.drew.cell? ⟨g,1,none⟩=some (.int .i64 p.o)∧w0.drew.cell? ⟨g,2,none⟩=some (.int .i64 p.l)∧w0.drew.cell? ⟨g,3,none⟩=some (.int .i64 p.v)∧w0.drew.cell? ⟨g,4,none⟩=some (.int .i64 p.m)from⟨(Kept.refl [] w0).drew,hb0.cell 0,hb0.cell 1,hb0.cell 2,hb0.cell 3,hb0.cell 4⟩);clear h hk0 hb0;obtain⟨⟨dv,a,z⟩,ho⟩:∃ y,ofSeg (some ⟨d,0,none⟩) s l r q p.s=y:=⟨_,rfl⟩;rw[ho];have HO:=sealed ho;clear ho;unfold Ps.val;go_enter Tryz.func20,Tryz.ntmps20;go_wp2;refine wp_region_noPanic ?_;refine wp_region_held_drew (S:=fun W=>Kept [] w0 W∧W.cell? ⟨g,0,none⟩=some (.int .i64 p.s)∧W.cell? ⟨g,1,none⟩=some (.int .i64 p.o)∧W.cell? ⟨g,2,none⟩=some (.int .i64 p.l)∧W.cell? ⟨g,3,none⟩=some (.int .i64 p.v)∧W.cell? ⟨g,4,none⟩=some (.int .i64 p.m)) (by kernel_rfl) (by exact HST.out) (fun hHeld=> ?_);refine tK 0 13 rfl ?_;refine tK 1 14 rfl ?_;refine tK 2 15 rfl ?_;refine tK 3 16 rfl ?_;refine tK 5 18 rfl ?_;refine tK 6 19 rfl ?_
 refine hO 4 (some 17) rfl fun K hK=> ?_;go_simp;refine(of_any (some ⟨d,0,none⟩) gp b s l r q p.s _ (H.out.kept hHeld.1)).mono ?_;rintro e w1 ⟨rfl,hk1⟩;rw[HO.out];have HH1:=hide (nwheld hHeld hk1);refine hK.out _ _ (by exact HH1.out) (fun hHeld=>tS ?_);clear hK K;refine tK 7 20 rfl ?_;refine hO 8 (some 21) rfl fun K hK=> ?_;go_simp;have HH2:=hide (nwheld hHeld ((Kept.refl [] w1).alloc (.cells #[.pointer dv,.int .i64 a,.int .i64 z,.int .i64 p.s,.int .i64 p.o,.int .i64 p.l,.int .i64 p.v,.int .i64 p.m,.bool false,.int .i64 p.s,.int .i64 p.o,.int .i64 p.l,.int .i64 p.v,.int .i64 p.m,.int .i64 0] 146)));refine hK.out _ _ (by exact HH2.out) (fun hHeld=>tS ?_);clear hK K;refine tK 9 6 rfl ?_;refine wpAnyH_done (by kernel_rfl) ?_ _;refine NoPanic.normal ?_;go_wp2;go_ret;exact⟨w1.heap.size,rfl,by have h1:=HH1.out.1.size;have h2:=HK0.out.size;omega,Blk.new w1 _ _,HK0.out.trans HH2.out.1 (by simp)⟩

theorem end_any (x:Nat)(dv:Option Addr)(a z:Int)(p:Ps)(hb:Bool)(e:Ps)(er:Int)(w:World)(h:ScAt w x dv a z p hb e er):
  Calls Tryz.prog 21 #[.pointer (some ⟨x,0,none⟩)] w fun e' w'=>e'= .returned e.val∧Kept [] w w':=by
 have hk0:=(Kept.refl [] w).alloc (.cells #[.int .i64 0,.int .i64 0,.int .i64 0,.int .i64 0,.int .i64 0] 24);obtain⟨c0,c1,c2,c3,c4,_⟩:=(h.kept hk0 (by simp)).end_;have HKA:=hide (fun vs:Array Value=>(Kept.refl [] w).alloc (.cells vs 24));clear hk0;unfold Ps.val;go_enter Tryz.func21,Tryz.ntmps21;go_wp2;refine bodyPost_ret (v:= .agg #[.int .i64 e.s,.int .i64 e.o,.int .i64 e.l,.int .i64 e.v,.int .i64 e.m]) (by simp [results,Tryz.results21,go_sem]) rfl ⟨rfl,HKA.out _⟩
theorem err_any (x:Nat)(dv:Option Addr)(a z:Int)(p:Ps)(hb:Bool)(e:Ps)(er:Int)(w:World)(h:ScAt w x dv a z p hb e er):
  Calls Tryz.prog 22 #[.pointer (some ⟨x,0,none⟩)] w fun e' w'=>e'= .returned (.int .i64 er)∧w=w':=by
 obtain⟨_,_,_,_,_,c5⟩:=h.end_;go_enter Tryz.func22,Tryz.ntmps22;go_wp2;go_ret;exact⟨rfl,rfl⟩
theorem records_any (P:Option Addr)(w:World):
  Calls Tryz.prog 84 #[.pointer P] w fun e w'=>e= .returned (.func (.func 148) #[] #[.pointer (some ⟨w.heap.size,0,none⟩)])∧w'=w.alloc (.cells #[.pointer P] 49):=by
 have hmf:∀ (fn:Fn) (first cap:Array Value) (w:World),(Instr.makeFunc fn first cap).run Tryz.prog w= .ok (.func fn first cap) w:=fun _ _ _ _=>rfl;go_enter Tryz.func84,Tryz.ntmps84;go_wp2;go_ret;exact⟨by simp,rfl⟩

end Go.Proofs.YtjkmahmoclobmaaGreat.sc
namespace Go.Proofs.YtjkmahmoclobmaaGreat.sc
open Go.RowKit mem base disk owns
open record (Rc RcIn RcAt put5 put5_kept cell5)
attribute [local go_sem] Oper.semAt_some
inductive After (D:Dk) (a z:Int) (l:List (Ps×Rc)) (E:Ps) (err:Int) (pre:List (Ps×Rc)) (pk:Ps):Int→Bool→Prop where
 | on (f:Nat) (ho:pk.o≠0) (hf:pk.o<1∨z≤pk.o+f) (hl:l=pre++(recs D a z f pk).1) (he:(recs D a z f pk).2=(E,err)):After D a z l E err pre pk 0 false
 | over (hl:l=pre) (hE:E=pk):After D a z l E err pre pk err true
theorem after_none {D:Dk}{a z:Int}{l:List (Ps×Rc)}{E:Ps}{err:Int}{pre:List (Ps×Rc)}{pk:Ps}{e2:Int}(h:After D a z l E err pre pk 0 false)(hn:follow D a z pk=(none,e2)):l=pre∧E=pk∧err=e2:=by
 cases h with
 | on f ho hf hl he=>
  rw[recs_none hn f hf]at hl he;injection he with h1 h2;exact⟨by simpa using hl,h1.symm,h2.symm⟩
theorem after_some {D:Dk}{a z:Int}{l:List (Ps×Rc)}{E:Ps}{err:Int}{pre:List (Ps×Rc)}{pk:Ps}{R:Rc}{s:Int}(h:After D a z l E err pre pk 0 false)(hn:follow D a z pk=(some (R,s),0)):
  After D a z l E err (pre++[(pk,R)]) (behind pk R s) 0 (hasNext R)∧pre++[(pk,R)] <+: l:=by
 cases h with
 | on f ho hf hl he=>
  cases hx:hasNext R with
  | true=>
   rw[recs_last hn f hf hx]at hl he;injection he with h1 h2;subst h2;exact⟨.over hl h1.symm,by rw[hl];exact List.prefix_refl _⟩
  | false=>
   obtain⟨f',rfl,hr,hf',ho'⟩:=recs_more hn f hf hx;rw[hr]at hl he;refine⟨.on f' (by omega) hf' (by rw[hl];simp) he,?_⟩;rw[hl];exact⟨(recs D a z f' (behind pk R s)).1,by simp⟩

theorem ScAt.setEnd {w:World}{x:Nat}{dv:Option Addr}{a z er:Int}{p e:Ps}{hb:Bool}(h:ScAt w x dv a z p hb e er)(y:Ps):ScAt (((((w.setCell ⟨x,9,none⟩ (.int .i64 y.s)).setCell ⟨x,10,none⟩ (.int .i64 y.o)).setCell ⟨x,11,none⟩ (.int .i64 y.l)).setCell ⟨x,12,none⟩ (.int .i64 y.v)).setCell ⟨x,13,none⟩ (.int .i64 y.m)) x dv a z p hb y er:=
 Blk.set_ (Blk.set_ (Blk.set_ (Blk.set_ (Blk.set_ h 9 _) 10 _) 11 _) 12 _) 13 _
theorem ScAt.setErr {w:World}{x:Nat}{dv:Option Addr}{a z er:Int}{p e:Ps}{hb:Bool}(h:ScAt w x dv a z p hb e er)(y:Int):ScAt (w.setCell ⟨x,14,none⟩ (.int .i64 y)) x dv a z p hb e y:=Blk.set_ h 14 _
def Abides (N:List Nat→List (Ps×Rc)→List Nat→World→Prop):Prop:=∀ I pre C W W' S,N I pre C W→Kept S W W'→(∀ y∈S,y∈I)→N I pre C W'
structure Apart (C:List Nat)(Bs x:Nat)(F:List Nat):Prop where
 b:Bs∉C
 x:x∉C
 f:∀ y∈F,y∉C
theorem Apart.next {C C':List Nat}{Bs x:Nat}{F:List Nat}(h:Apart C Bs x F){m:Nat}(hC:∀ y∈C',y∈C∨m≤y)(hb:Bs<m)(hx:x<m)(hf:∀ y∈F,y<m):Apart C' Bs x F:=
 ⟨fun hm=>(hC _ hm).elim h.b (fun h1=>by omega),fun hm=>(hC _ hm).elim h.x (fun h1=>by omega),fun y hy hm=>(hC _ hm).elim (h.f y hy) (fun h1=>by have:=hf y hy;omega)⟩
def RecsEnd (D:Dk)(Bs x:Nat)(F:List Nat)(dv:Option Addr)(a z:Int)(p:Ps)(hb:Bool)(l:List (Ps×Rc))(E:Ps)(err:Int)(I0 C0:List Nat)(W0:World)(N Nx:List Nat→List (Ps×Rc)→List Nat→World→Prop)(w':World):Prop:=
 Kept (x::C0) W0 w'∧∃ q C,Apart C Bs x F∧Dsk w' F dv z D∧((N (q::x::I0) l C w'∧ScAt w' x dv a z p hb E err)∨(∃ pre pk ov,pre <+: l∧1≤pre.length∧After D a z l E err pre pk 0 ov∧Nx (q::x::I0) pre C w'∧ScAt w' x dv a z p hb pk 0))
theorem after_begun {D:Dk}{a z:Int}{p:Ps}{hb:Bool}{l:List (Ps×Rc)}{E:Ps}{err:Int}(h:scanOf D a z p hb=(l,E,err)):After D a z l E err [] (begun D a z p hb).1 (begun D a z p hb).2.1 (begun D a z p hb).2.2:=by
 unfold scanOf at h;unfold begun
 have hs:∀ q e,start D a z p hb=(some q,e)→q.o≠0:=by
  intro q e hq;unfold start at hq
  split at hq
  ·rename_i h1
   injection hq with h2 _;injection h2 with h2;rw[←h2];exact h1
  ·split at hq
   ·cases hq
   ·split at hq
    ·injection hq with h2 _;injection h2 with h2;rw[←h2];show(1:Int)≠0;decide
    ·cases hq
 cases hst:start D a z p hb with
 | mk o e=>
  rw[hst]at h
  cases o with
  | none=>
   dsimp only at h ⊢;injection h with h1 h2;injection h2 with h2 h3;subst h1 h2 h3;exact .over rfl rfl
  | some q=>
   dsimp only at h ⊢;refine .on z.toNat (hs q e hst) (by omega) ?_ ?_
   ·rw[h];rfl
   ·rw[h]
def ItOn (D:Dk)(Bs x q:Nat)(F:List Nat)(dv:Option Addr)(a z:Int)(p:Ps)(hb:Bool)(l:List (Ps×Rc))(E:Ps)(err:Int)(I0 C0:List Nat)(W0:World)(N:List Nat→List (Ps×Rc)→List Nat→World→Prop)(w:World):Prop:=
 ∃ pre pk er ov C e' er',After D a z l E err pre pk er ov∧WkAt w q dv a z pk er ov∧ScAt w x dv a z p hb e' er'∧N (q::x::I0) pre C w∧(Apart C Bs x F∧q∉C)∧Dsk w F dv z D∧Blk w Bs 49 #[.pointer (some ⟨x,0,none⟩)]∧Kept (x::C0) W0 w∧(∀ y∈C,y∈C0∨W0.heap.size≤y)
def muOf (q:Nat)(z:Int)(v:Value)(w:World):Nat:=2*(match w.cell? ⟨q,4,none⟩with|some (.int _ o)=>(z-o).toNat|_=>0)+(match v with| .bool true=>1|_=>0)
theorem muOf_at {w:World}{q:Nat}{dv:Option Addr}{a z er:Int}{pk:Ps}{ov:Bool}(h:WkAt w q dv a z pk er ov)(b:Bool):muOf q z (.bool b) w=2*(z-pk.o).toNat+(if b then 1 else 0):=by
 unfold muOf;rw[h.place.2.1]
 cases b<;>rfl

end Go.Proofs.YtjkmahmoclobmaaGreat.sc
namespace Go.Proofs.YtjkmahmoclobmaaGreat.sc
open Go.RowKit mem
open record (Rc RcIn)
theorem kept_put (W:World)(i:Nat)(o:Obj):Kept [i] W (W.putObj i o):=
 ⟨rfl,rfl,rfl,by simp [World.putObj],fun k _ hk=>World.putObj_heap_other (by simpa using hk)⟩
def recVal (R:Rc)(L:Option Addr)(m c:Nat)(P:Option Addr)(k d:Nat):Value:= .agg #[.int .i64 R.m,.int .i64 R.l,.int .i64 R.p,.slice L m c,.slice P k d]
def RoundPost (I C:List Nat)(pre:List (Ps×Rc))(N:List Nat→List (Ps×Rc)→List Nat→World→Prop)(Nx:Code→List Nat→List (Ps×Rc)→List Nat→World→Prop)(W:World):Exit→Act→World→Prop
 | .normal,_,W'=>∃ C',(∀ y∈C',y∈C∨W.heap.size≤y)∧Kept C W W'∧N I pre C' W'
 | .ret,_,W'=>∃ C',(∀ y∈C',y∈C∨W.heap.size≤y)∧Kept C W W'∧Nx .ret I pre C' W'
 | .exit i,_,W'=>∃ C',(∀ y∈C',y∈C∨W.heap.size≤y)∧Kept C W W'∧Nx (.exit i) I pre C' W'
 | .goto i,_,W'=>∃ C',(∀ y∈C',y∈C∨W.heap.size≤y)∧Kept C W W'∧Nx (.goto i) I pre C' W'
 | .panic _,_,_=>False
 | .outgrown,_,_=>False

end Go.Proofs.YtjkmahmoclobmaaGreat.sc
namespace Go.Proofs.YtjkmahmoclobmaaGreat.sc
open Go.RowKit mem base disk owns
open record (Rc RcIn RcAt)
open crc (PartsIn)
attribute [local go_sem] Oper.semAt_some
theorem vals_put {w:World}{S:List Nat}{A:Option Addr}{vs:List Value}{i:Nat}{o o':Obj}(h:Vals w S A vs)(hi:w.heap[i]? = some o)(hc:o.isCells=false):Vals (w.putObj i o') [] A vs:=fun k v hv=>by
 obtain⟨ad,rfl,_,hcell⟩:=h k v hv;refine⟨ad,rfl,by simp,?_⟩;refine(World.cell?_of_block (World.putObj_heap_other ?_)).trans hcell;intro e;rw[block_of_add]at e;unfold World.cell? at hcell;rw[block_of_add,e,hi]at hcell
 cases o<;>first|(cases hc;done)|simp at hcell
theorem wpListIn_append_vals {Fc:Fence}{n:Nat}{P:Program}{ops:Array Oper}{rest:List Oper}{o:Oper}{a:Act}{w:World}{Q:Exit→Act→World→Prop}(hg:o.guard=none)(s x:Operand)(t:TypeId)
  (hop:o.op= .call {callee:= .builtin .append,args:=#[s,x],argTypes:=#[t,t]}) (base:Nat) (e:TypeId) (i:TypeInfo) (z:Value) (size bytes:Nat) (h1:P.underlying t=some (.slice e)) (h2:P.info? e=some i) (h3:i.zero=some z) (h4:i.size=size) (h5:i.bytes=bytes) (h6:z.cells.size=size) (h7:0<size)
  (v:Value) (k:Nat) (xs:List Value) (hs:a.eval s=v) (hown:w.ownsRow base e size v k xs) (S:List Nat) (A:Option Addr) (m c:Nat) (news:List Value) (hx:a.eval x= .slice A m c) (hn:news.length=m*size) (hv:Vals w S A news) (h1c:∀ u∈news,u.oneCell'=true)
  (b1:k+m≤maxLen) (b2:(k+m)*bytes≤140737488355328) (b3:base≤w.heap.size)
  (hK:∀ v' w',w'.ownsRow base e size v' (k+m) (xs++news)→Kept v.ownBlock.toList w w'→(v'.ownBlock=v.ownBlock∨v'.ownBlock=some w.heap.size)→wpListIn Fc n P ops Q rest (a.put o.dst v') w'):
  wpListIn Fc n P ops Q (o::rest) a w:=by
 refine wpListIn_plain hg fun K hK'=> ?_;obtain⟨v',w',hrun,r1,r2,r3⟩:=run_append_vals (P:=P) base t o.type e i z size bytes h1 h2 h3 h4 h5 h6 h7 v k xs hown S A m c news hn hv h1c b1 b2 b3;unfold Oper.wpIn;refine⟨?_,?_⟩
 ·simp [Oper.about,hop,resolve,Target.leads,Sem.run_pure]
 ·rw[Oper.semAt_plain Fc _ _ (by rw[hop];intro c hc';cases hc')]
  simp [execOp,hop,resolve,invoke,builtin,hs,hx,hrun,Result.andThen]
  exact hK' _ _ (hK v' w' r1 ⟨r2.os,r2.tape,r2.output,r2.size,fun j hj hn=>r2.block j hj (fun e=>hn (by rw[←e];simp))⟩ r3)

end Go.Proofs.YtjkmahmoclobmaaGreat.sc
namespace Go.Proofs.YtjkmahmoclobmaaGreat.sc
open Go.RowKit mem base disk owns
open record (Rc RcIn RcAt)
open crc (PartsIn)
attribute [local go_sem] Oper.semAt_some
end Go.Proofs.YtjkmahmoclobmaaGreat.sc
