import Derived.Test.YtjkmahmoclobmaaGreatYChainSegM
import Derived.Deep.CutRange
import Derived.Test.YtjkmahmoclobmaaGreatYOrders
namespace Go.Proofs.YtjkmahmoclobmaaGreat.sc
set_option linter.unusedSimpArgs false
set_option linter.unusedVariables false
open Go.RowKit mem base disk geom owns
open record (Rc RcIn RcAt put5 put5_kept cell5)
open item (It Items)
attribute [local go_sem] Oper.semAt_some
structure Rg1 (w W:World)(dv:Option Addr)(a z:Int)(p:Ps)(o8 o9 ox:Option Nat):Prop where
 k:Kept [] w W
 h8:∀ y,o8=some y→Blk W y 49 #[.pointer none]∧w.heap.size≤y
 h9:∀ y,o9=some y→Blk W y 4 #[.bool false]∧w.heap.size≤y
 hx:∀ y,ox=some y→ScAt W y dv a z p false p 0∧w.heap.size≤y
 n1:∀ y y',o8=some y→o9=some y'→y≠y'
 n2:∀ y y',o8=some y→ox=some y'→y≠y'
 n3:∀ y y',o9=some y→ox=some y'→y≠y'
theorem Rg1.kp {w W W':World}{dv:Option Addr}{a z:Int}{p:Ps}{o8 o9 ox:Option Nat}(h:Rg1 w W dv a z p o8 o9 ox)(k:Kept [] W W'):Rg1 w W' dv a z p o8 o9 ox:=
 ⟨h.k.trans k (by simp),fun y hy=>⟨k.blk (h.h8 y hy).1 (by simp),(h.h8 y hy).2⟩,fun y hy=>⟨k.blk (h.h9 y hy).1 (by simp),(h.h9 y hy).2⟩,fun y hy=>⟨(h.hx y hy).1.kept k (by simp),(h.hx y hy).2⟩,h.n1,h.n2,h.n3⟩
theorem Rg1.a8 {w W:World}{dv:Option Addr}{a z:Int}{p:Ps}{o9 ox:Option Nat}(h:Rg1 w W dv a z p none o9 ox):Rg1 w (W.alloc (.cells #[.pointer none] 49)) dv a z p (some W.heap.size) o9 ox:=by
 have h1:=h.kp ((Kept.refl [] W).alloc (.cells #[.pointer none] 49));refine⟨h1.k,fun y hy=> ?_,h1.h9,h1.hx,fun y y' hy hy'=> ?_,fun y y' hy hy'=> ?_,h1.n3⟩
 ·injection hy with hy;subst hy;exact⟨Blk.new W _ _,h.k.size⟩
 ·injection hy with hy;subst hy;have:=(h.h9 y' hy').1.lt;omega
 ·injection hy with hy;subst hy;have:=(h.hx y' hy').1.lt;omega
theorem Rg1.a9 {w W:World}{dv:Option Addr}{a z:Int}{p:Ps}{o8 ox:Option Nat}(h:Rg1 w W dv a z p o8 none ox):Rg1 w (W.alloc (.cells #[.bool false] 4)) dv a z p o8 (some W.heap.size) ox:=by
 have h1:=h.kp ((Kept.refl [] W).alloc (.cells #[.bool false] 4));refine⟨h1.k,h1.h8,fun y hy=> ?_,h1.hx,fun y y' hy hy'=> ?_,h1.n2,fun y y' hy hy'=> ?_⟩
 ·injection hy with hy;subst hy;exact⟨Blk.new W _ _,h.k.size⟩
 ·injection hy' with hy';subst hy';have:=(h.h8 y hy).1.lt;omega
 ·injection hy with hy;subst hy;have:=(h.hx y' hy').1.lt;omega
theorem Rg1.ax {w W W':World}{dv:Option Addr}{a z:Int}{p:Ps}{o8 o9:Option Nat}(h:Rg1 w W dv a z p o8 o9 none)(k:Kept [] W W'){x:Nat}(hx:W.heap.size≤x)(hs:ScAt W' x dv a z p false p 0):Rg1 w W' dv a z p o8 o9 (some x):=by
 have h1:=h.kp k;refine⟨h1.k,h1.h8,h1.h9,fun y hy=> ?_,h1.n1,fun y y' hy hy'=> ?_,fun y y' hy hy'=> ?_⟩
 ·injection hy with hy;subst hy;exact⟨hs,Nat.le_trans h.k.size hx⟩
 ·injection hy' with hy';subst hy';have:=(h.h8 y hy).1.lt;omega
 ·injection hy' with hy';subst hy';have:=(h.h9 y hy).1.lt;omega
theorem Rg1.exw {w W:World}{dv:Option Addr}{a z:Int}{p:Ps}{o8 o9 ox:Option Nat}(h:Rg1 w W dv a z p o8 o9 ox):∃ wm,W=wm∧Rg1 w wm dv a z p o8 o9 ox:=⟨W,rfl,h⟩
theorem Rg1.s8 {w W:World}{dv:Option Addr}{a z:Int}{p:Ps}{y8 y9 x:Nat}(h:Rg1 w W dv a z p (some y8) (some y9) (some x))(v:Value):Kept [] w (W.setCell ⟨y8,0,none⟩ v):=
 h.k.trans ((Kept.refl [y8] W).set_ (b:=y8) (.inl (by simp)) 0 v) (fun i hi=>by simp at hi;subst hi;exact .inr (h.h8 _ rfl).2)
theorem Rg1.s9 {w W:World}{dv:Option Addr}{a z:Int}{p:Ps}{y8 y9 x:Nat}(h:Rg1 w W dv a z p (some y8) (some y9) (some x))(v u:Value):Kept [] w ((W.setCell ⟨y8,0,none⟩ v).setCell ⟨y9,0,none⟩ u):=
 (h.s8 v).trans ((Kept.refl [y9] _).set_ (b:=y9) (.inl (by simp)) 0 u) (fun i hi=>by simp at hi;subst hi;exact .inr (h.h9 _ rfl).2)
theorem Rg1.fin {w W:World}{dv:Option Addr}{a z:Int}{p:Ps}{y8 y9 x:Nat}(h:Rg1 w W dv a z p (some y8) (some y9) (some x)):
  Blk ((W.setCell ⟨y8,0,none⟩ (.pointer (some ⟨x,0,none⟩))).setCell ⟨y9,0,none⟩ (.bool false)) y8 49 #[.pointer (some ⟨x,0,none⟩)]∧
  Blk ((W.setCell ⟨y8,0,none⟩ (.pointer (some ⟨x,0,none⟩))).setCell ⟨y9,0,none⟩ (.bool false)) y9 4 #[.bool false]∧
  ScAt ((W.setCell ⟨y8,0,none⟩ (.pointer (some ⟨x,0,none⟩))).setCell ⟨y9,0,none⟩ (.bool false)) x dv a z p false p 0∧
  Kept [] w ((W.setCell ⟨y8,0,none⟩ (.pointer (some ⟨x,0,none⟩))).setCell ⟨y9,0,none⟩ (.bool false))∧(w.heap.size≤y8∧w.heap.size≤y9∧w.heap.size≤x∧y8≠y9∧y8≠x∧y9≠x):=by
 have k8:=(Kept.refl [y8] W).set_ (b:=y8) (.inl (by simp)) 0 (.pointer (some ⟨x,0,none⟩));have k9:=(Kept.refl [y9] (W.setCell ⟨y8,0,none⟩ (.pointer (some ⟨x,0,none⟩)))).set_ (b:=y9) (.inl (by simp)) 0 (.bool false);have n1:=h.n1 _ _ rfl rfl;have n2:=h.n2 _ _ rfl rfl;have n3:=h.n3 _ _ rfl rfl;refine⟨k9.blk (Blk.set_ (h.h8 _ rfl).1 0 _) (by simpa using n1),?_,((h.hx _ rfl).1.kept k8 (by simpa using n2.symm)).kept k9 (by simpa using n3.symm),h.s9 _ _,(h.h8 _ rfl).2,(h.h9 _ rfl).2,(h.hx _ rfl).2,n1,n2,n3⟩;exact Blk.set_ (k8.blk (h.h9 _ rfl).1 (by simpa using n1.symm)) 0 (.bool false)
def SegEnd (N Nx:Wd)(c d gp Z:Nat)(F C0 ex:List Nat)(W0:World)(D:Dk)(s:Int)(fr p:Ps)(a z:Int)(pre0 L:List (Ps×Rc))(E:Ps)(err:Int)(e:Ending)(w':World):Prop:=
 ∃ C at_ on,(∀ y∈C,y∈C0∨Z≤y)∧(∀ y,(y=c∨y=gp∨y∈F)→y∉C)∧Kept (c::C0) W0 w'∧
  ((e= .returned (.tuple #[at_.val,.bool on])∧Stand D a z s p L at_ on∧N (c::ex) (pre0++L) C w'∧CcAt w' c d gp fr (if on then at_ else E) (if on then 0 else err))∨
   (e= .returned (.tuple #[Ps.zero.val,.bool false])∧∃ pre,pre <+: L∧pre≠[]∧Stand D a z s p pre at_ on∧Nx (c::ex) (pre0++pre) C w'∧CcAt w' c d gp fr at_ 0))

set_option maxRecDepth 100000 in
set_option maxHeartbeats 4000000 in
theorem csegment_any (N Nx:Wd)(F:List Nat)(D:Dk)(hD:D.ok)(lv lp c d gp:Nat)(fr p en0:Ps)(er0:Int)(b s l r q:Int)(pre0 L:List (Ps×Rc))(E:Ps)(err:Int)(C0 ex:List Nat)(w:World)
  (hN:Abides N) (hNx:Abides Nx) (hG:Grows N) (hGx:Grows Nx) (hP:Puts N) (hPx:Puts Nx) (hC:∀ I pre C W,N I pre C W→∀ y∈C,y<W.heap.size) (hl:segOf D s l r q p=(L,E,err))
  (hY:∀ I pre C W pk R A m cc A2 k dc,c∈I→N I (pre0++pre) C W→pre++[(pk,R)] <+: L→RcIn W (I++C++F) A m A2 k R→(∀ y∈I,y<W.heap.size)→YieldAt Fence.wide lv Tryz.prog lp #[pk.val,recVal R A m cc A2 k dc] W fun e W'=>
   ∃ C',(∀ y∈C',y∈C∨W.heap.size≤y)∧Kept C W W'∧((e= .returned (.bool true)∧N I (pre0++(pre++[(pk,R)])) C' W')∨(e= .returned (.bool false)∧Nx I (pre0++(pre++[(pk,R)])) C' W')))
  (h0:N (c::ex) pre0 C0 w) (hc:CcAt w c d gp fr en0 er0) (hg:GAt w gp b s l r q) (hv:VD w F d D) (hap:∀ y,(y=c∨y=gp∨y∈F)→y∉C0) (hcg:c≠gp) (hcf:c∉F) (hex:∀ y∈ex,y<w.heap.size∧y∉F):
  Calls Tryz.prog 152 #[.pointer (some ⟨c,0,none⟩),p.val,.func (.yield lp) #[] #[]] w fun e w'=>SegEnd N Nx c d gp w.heap.size F C0 ex w D s fr p (ofSeg none s l r q p.s).2.1 (ofSeg none s l r q p.s).2.2 pre0 L E err e w':=by
 obtain⟨y,hz⟩:∃ y,w.heap.size=y:=⟨_,rfl⟩;have HZ:=hide (Nat.le_of_eq hz);have HZ':=hide (Nat.le_of_eq hz.symm);obtain⟨w0,hw0⟩:∃ w0,((((w.alloc (.cells #[.pointer (some ⟨c,0,none⟩)] 65)).alloc (.cells #[.int .i64 p.s,.int .i64 p.o,.int .i64 p.l,.int .i64 p.v,.int .i64 p.m] 24)).alloc (.cells #[.func (.yield lp) #[] #[]] 238)).alloc (.cells #[.int .i64 0,.int .i64 0,.int .i64 0,.int .i64 0,.int .i64 0] 24)).alloc (.cells #[.bool false] 4)=w0:=⟨_,rfl⟩
 have hk0:Kept [] w w0:=by rw[←hw0];exact(((((Kept.refl [] w).alloc _).alloc _).alloc _).alloc _).alloc _
 have hb3:Blk w0 y 65 #[.pointer (some ⟨c,0,none⟩)]:=by
  rw[←hw0,←hz];exact((((Blk.new w _ _).alloc _).alloc _).alloc _).alloc _
 have hb4:Blk w0 (y+1) 24 #[.int .i64 p.s,.int .i64 p.o,.int .i64 p.l,.int .i64 p.v,.int .i64 p.m]:=by
  rw[←hw0,←hz,←World.size_alloc w (.cells #[.pointer (some ⟨c,0,none⟩)] 65)]
  exact(((Blk.new _ _ _).alloc _).alloc _).alloc _
 have hb5:Blk w0 (y+1+1) 238 #[.func (.yield lp) #[] #[]]:=by
  rw[←hw0,←hz,←World.size_alloc w (.cells #[.pointer (some ⟨c,0,none⟩)] 65),←World.size_alloc _ (.cells #[.int .i64 p.s,.int .i64 p.o,.int .i64 p.l,.int .i64 p.v,.int .i64 p.m] 24)]
  exact((Blk.new _ _ _).alloc _).alloc _
 have hb6:Blk w0 (y+1+1+1) 24 #[.int .i64 0,.int .i64 0,.int .i64 0,.int .i64 0,.int .i64 0]:=by
  rw[←hw0,←hz,←World.size_alloc w (.cells #[.pointer (some ⟨c,0,none⟩)] 65),←World.size_alloc _ (.cells #[.int .i64 p.s,.int .i64 p.o,.int .i64 p.l,.int .i64 p.v,.int .i64 p.m] 24),←World.size_alloc _ (.cells #[.func (.yield lp) #[] #[]] 238)]
  exact(Blk.new _ _ _).alloc _
 have hb7:Blk w0 (y+1+1+1+1) 4 #[.bool false]:=by
  rw[←hw0,←hz,←World.size_alloc w (.cells #[.pointer (some ⟨c,0,none⟩)] 65),←World.size_alloc _ (.cells #[.int .i64 p.s,.int .i64 p.o,.int .i64 p.l,.int .i64 p.v,.int .i64 p.m] 24),←World.size_alloc _ (.cells #[.func (.yield lp) #[] #[]] 238),←World.size_alloc _ (.cells #[.int .i64 0,.int .i64 0,.int .i64 0,.int .i64 0,.int .i64 0] 24)];exact Blk.new _ _ _
 obtain⟨dv,hdv⟩:∃ dv,(ofSeg (some ⟨d,0,none⟩) s l r q p.s).1=dv:=⟨_,rfl⟩;obtain⟨a,ha⟩:∃ a,(ofSeg none s l r q p.s).2.1=a:=⟨_,rfl⟩;obtain⟨z,hzz⟩:∃ z,(ofSeg none s l r q p.s).2.2=z:=⟨_,rfl⟩
 have hbd:(0≤a∧a≤10000)∧(0≤z∧z≤1000)∧(0<z→dv=some ⟨d,0,none⟩∧a=segAt s l r q p.s):=by
  rw[←ha,←hzz,←hdv];unfold ofSeg
  split
  ·rename_i h1
   have h2:=seg_bd hg h1;have h3:=hg.ok;unfold Ok at h3;refine⟨by dsimp only;omega,by dsimp only;omega,fun _=>⟨rfl,rfl⟩⟩
  ·exact⟨by simp,by simp,by simp⟩
 have HNEW:=hide (fun w (hg:GAt w gp b s l r q)=>(new_any d gp b s l r q p w hg).mono (R':=fun e w'=>∃ x,e= .returned (.pointer (some ⟨x,0,none⟩))∧w.heap.size≤x∧ScAt w' x dv a z p false p 0∧Kept [] w w') (fun e w' h=>by rw[hdv,ofSeg_two,ha,hzz]at h;exact h));have HL:=sealed (show scanOf D a z p false=(L,E,err)by unfold segOf at hl;rw[ha,hzz]at hl;exact hl);rw[ha,hzz];have HBD:=sealed hbd;clear ha hzz hdv hl hbd;have HK0:=hide hk0;have HC:=hide (hc.kept hk0 (by simp));have HGE:=hide (hg.kept hk0);have HV:=hide (hv.kept hk0 (by simp));have HB3:=hide hb3;have HB4:=hide hb4;have HB5:=hide hb5;have HB6:=hide hb6;have HB7:=hide hb7;have HW0:=hide hb7.lt;have HD:=hide hD;have HN:=hide hN;have HNX:=hide hNx;have HG:=hide hG;have HGX:=hide hGx;have HP:=hide hP;have HPX:=hide hPx;have HCL:=hide hC;have HY:=hide hY;have H0:=hide h0;have HAP:=hide hap;have HCG:=sealed hcg;have HCF:=hide hcf;have HEX:=hide hex;have HOL:=hide (show c<w.heap.size∧gp<w.heap.size∧(∀ y∈F,y<w.heap.size)from⟨hc.lt,hg.lt,hv.lt⟩)
 have HALL:=hide (show ∀ W,Kept [] w0 W→Kept [] w0 W∧W.cell? ⟨y,0,none⟩=some (.pointer (some ⟨c,0,none⟩))∧W.cell? ⟨c,0,none⟩=some (.pointer (some ⟨d,0,none⟩))∧W.cell? ⟨c,1,none⟩=some (.pointer (some ⟨gp,0,none⟩))∧
  W.cell? ⟨y+1,0,none⟩=some (.int .i64 p.s)∧W.cell? ⟨y+1,1,none⟩=some (.int .i64 p.o)∧W.cell? ⟨y+1,2,none⟩=some (.int .i64 p.l)∧W.cell? ⟨y+1,3,none⟩=some (.int .i64 p.v)∧W.cell? ⟨y+1,4,none⟩=some (.int .i64 p.m)from
  fun W k=>⟨k,k.cell (hb3.cell 0) (by simp),k.cell HC.out.two.1 (by simp),k.cell HC.out.two.2 (by simp),k.cell (hb4.cell 0) (by simp),k.cell (hb4.cell 1) (by simp),k.cell (hb4.cell 2) (by simp),k.cell (hb4.cell 3) (by simp),k.cell (hb4.cell 4) (by simp)⟩)
 have HR:Hid (Rg1 w0 w0.drew dv a z p none none none):=hide ⟨(Kept.refl [] w0).drew,by simp,by simp,by simp,by simp,by simp,by simp⟩
 have hmx:Tryz.prog.follows .mixedOrders=true:=by kernel_rfl
 clear hc hg hv hk0 hb3 hb4 hb5 hb6 hb7 hD hN hNx hG hGx hP hPx hC hY h0 hap hcg hcf hex;unfold Ps.val;refine callsIn_wide.1 (callsIn_of_wp_marks (n:=3) Tryz.func152 rfl trivial ?_ rfl);simp only[Tryz.ntmps152,List.size_toArray,List.length_cons,List.length_nil,Nat.reduceAdd,Nat.reduceSub,Array.replicate_succ,Array.replicate_zero,List.push_toArray,List.append_toArray,List.nil_append,List.cons_append];refine wpIn_wide.2 ?_;go_wp2
 go_cut [8,9]from 14 to 23 (fun p8 p9 wx=>∃ (b8 b9 x:Nat),p8= .pointer (some ⟨b8,0,none⟩)∧p9= .pointer (some ⟨b9,0,none⟩)∧Hid (Blk wx b8 49 #[.pointer (some ⟨x,0,none⟩)])∧Hid (Blk wx b9 4 #[.bool false])∧Hid (ScAt wx x dv a z p false p 0)∧Hid (Kept [] w0 wx)∧Hid (w0.heap.size≤b8∧w0.heap.size≤b9∧w0.heap.size≤x∧b8≠b9∧b8≠x∧b9≠x))
 case first=>
  refine wp_region_noPanic ?_;refine wp_region_held_drew (S:=fun W=>Kept [] w0 W∧W.cell? ⟨y,0,none⟩=some (.pointer (some ⟨c,0,none⟩))∧W.cell? ⟨c,0,none⟩=some (.pointer (some ⟨d,0,none⟩))∧W.cell? ⟨c,1,none⟩=some (.pointer (some ⟨gp,0,none⟩))∧W.cell? ⟨y+1,0,none⟩=some (.int .i64 p.s)∧W.cell? ⟨y+1,1,none⟩=some (.int .i64 p.o)∧W.cell? ⟨y+1,2,none⟩=some (.int .i64 p.l)∧W.cell? ⟨y+1,3,none⟩=some (.int .i64 p.v)∧W.cell? ⟨y+1,4,none⟩=some (.int .i64 p.m)) (by kernel_rfl) (by exact HALL.out _ (Kept.refl [] w0).drew) (fun hHeld=> ?_);refine tK 0 14 rfl ?_;refine tK 1 15 rfl ?_;refine tK 2 16 rfl ?_;refine tK 3 17 rfl ?_;refine tK 4 18 rfl ?_;refine tK 5 19 rfl ?_;refine tK 6 20 rfl ?_;refine tK 7 21 rfl ?_;refine tK 8 22 rfl ?_;refine next_three (i:=9) (j:=10) (l:=11) (o:=⟨some 23,_,_,_,_,_⟩) (o':=⟨some 8,_,_,_,_,_⟩) (o'':=⟨some 9,_,_,_,_,_⟩) (by kernel_rfl) rfl (by rfl) rfl (by rfl) rfl (by rfl) (fun K hK=> ?_) (fun K hK=> ?_) (fun K hK=> ?_)
  ·(try generalize w0.drew=wd at HR hHeld ⊢)
   go_simp;refine(HNEW.out _ (HGE.out.kept hHeld.1)).mono ?_;rintro e wn ⟨x,rfl,hx,hsc,hkn⟩;have HR:=hide (HR.out.ax hkn hx hsc);refine hK _ _ (by exact HALL.out _ HR.out.k) ?_;have hHeld:=HALL.out _ HR.out.k;clear hK K
   try simp only[Act.put,pA,pB,pC]
   refine next_two (i:=10) (j:=11) (o:=⟨some 8,_,_,_,_,_⟩) (o':=⟨some 9,_,_,_,_,_⟩) (by kernel_rfl) rfl (by rfl) rfl (by rfl) (fun K hK=> ?_) (fun K hK=> ?_)
   ·(try generalize w0.drew=wd at HR hHeld ⊢)
    go_simp;obtain⟨wm,hwm,HR'⟩:=HR.out.a8.exw;rw[hwm];clear hwm;have HR:=hide HR';clear HR';refine hK _ _ (by exact HALL.out _ HR.out.k) ?_;have hHeld:=HALL.out _ HR.out.k;clear hK K
    try simp only[Act.put,pA,pB,pC]
    refine hO 11 (some 9) rfl fun K hK=> ?_
    (try generalize w0.drew=wd at HR hHeld ⊢)
    go_simp;obtain⟨wm,hwm,HR'⟩:=HR.out.a9.exw;rw[hwm];clear hwm;have HR:=hide HR';clear HR';refine hK.out _ _ (by exact HALL.out _ HR.out.k) (fun hHeld=>tS ?_);clear hK K;refine hO 12 none rfl fun K hK=> ?_;have g8:=(HR.out.h8 _ rfl).1;have g9:=(HR.out.h9 _ rfl).1;have c8:=g8.cell 0;have f8:=g8.frozen 0;have c9:=((Kept.refl [_] _).set_ (.inl (List.mem_singleton.2 rfl)) 0 (.pointer (some ⟨x,0,none⟩))).blk g9 (fun hm=>HR.out.n1 _ _ rfl rfl (List.mem_singleton.1 hm).symm);have f9:=c9.frozen 0;have c9:=c9.cell 0;go_simp;refine hK.out _ _ (by exact HALL.out _ (HR.out.s8 _)) (fun hHeld=>tS ?_);clear hK K;refine hO 13 none rfl fun K hK=> ?_;go_simp;refine hK.out _ _ (by exact HALL.out _ (HR.out.s9 _ _)) (fun hHeld=>tS ?_);clear hK K;refine wpAnyH_done (by kernel_rfl) ?_ _;refine NoPanic.normal ?_;have HF:=HR.out.fin;go_wp2_with fail;go_meet;exact⟨_,_,_,rfl,rfl,hide HF.1,hide HF.2.1,hide HF.2.2.1,hide HF.2.2.2.1,hide HF.2.2.2.2⟩
   ·(try generalize w0.drew=wd at HR hHeld ⊢)
    go_simp;obtain⟨wm,hwm,HR'⟩:=HR.out.a9.exw;rw[hwm];clear hwm;have HR:=hide HR';clear HR';refine hK _ _ (by exact HALL.out _ HR.out.k) ?_;have hHeld:=HALL.out _ HR.out.k;clear hK K
    try simp only[Act.put,pA,pB,pC]
    refine hO 10 (some 8) rfl fun K hK=> ?_
    (try generalize w0.drew=wd at HR hHeld ⊢)
    go_simp;obtain⟨wm,hwm,HR'⟩:=HR.out.a8.exw;rw[hwm];clear hwm;have HR:=hide HR';clear HR';refine hK.out _ _ (by exact HALL.out _ HR.out.k) (fun hHeld=>tS ?_);clear hK K;refine hO 12 none rfl fun K hK=> ?_;have g8:=(HR.out.h8 _ rfl).1;have g9:=(HR.out.h9 _ rfl).1;have c8:=g8.cell 0;have f8:=g8.frozen 0;have c9:=((Kept.refl [_] _).set_ (.inl (List.mem_singleton.2 rfl)) 0 (.pointer (some ⟨x,0,none⟩))).blk g9 (fun hm=>HR.out.n1 _ _ rfl rfl (List.mem_singleton.1 hm).symm);have f9:=c9.frozen 0;have c9:=c9.cell 0;go_simp;refine hK.out _ _ (by exact HALL.out _ (HR.out.s8 _)) (fun hHeld=>tS ?_);clear hK K;refine hO 13 none rfl fun K hK=> ?_;go_simp;refine hK.out _ _ (by exact HALL.out _ (HR.out.s9 _ _)) (fun hHeld=>tS ?_);clear hK K;refine wpAnyH_done (by kernel_rfl) ?_ _;refine NoPanic.normal ?_;have HF:=HR.out.fin;go_wp2_with fail;go_meet;exact⟨_,_,_,rfl,rfl,hide HF.1,hide HF.2.1,hide HF.2.2.1,hide HF.2.2.2.1,hide HF.2.2.2.2⟩
  ·(try generalize w0.drew=wd at HR hHeld ⊢)
   go_simp;obtain⟨wm,hwm,HR'⟩:=HR.out.a8.exw;rw[hwm];clear hwm;have HR:=hide HR';clear HR';refine hK _ _ (by exact HALL.out _ HR.out.k) ?_;have hHeld:=HALL.out _ HR.out.k;clear hK K
   try simp only[Act.put,pA,pB,pC]
   refine next_two (i:=9) (j:=11) (o:=⟨some 23,_,_,_,_,_⟩) (o':=⟨some 9,_,_,_,_,_⟩) (by kernel_rfl) rfl (by rfl) rfl (by rfl) (fun K hK=> ?_) (fun K hK=> ?_)
   ·(try generalize w0.drew=wd at HR hHeld ⊢)
    go_simp;refine(HNEW.out _ (HGE.out.kept hHeld.1)).mono ?_;rintro e wn ⟨x,rfl,hx,hsc,hkn⟩;have HR:=hide (HR.out.ax hkn hx hsc);refine hK _ _ (by exact HALL.out _ HR.out.k) ?_;have hHeld:=HALL.out _ HR.out.k;clear hK K
    try simp only[Act.put,pA,pB,pC]
    refine hO 11 (some 9) rfl fun K hK=> ?_
    (try generalize w0.drew=wd at HR hHeld ⊢)
    go_simp;obtain⟨wm,hwm,HR'⟩:=HR.out.a9.exw;rw[hwm];clear hwm;have HR:=hide HR';clear HR';refine hK.out _ _ (by exact HALL.out _ HR.out.k) (fun hHeld=>tS ?_);clear hK K;refine hO 12 none rfl fun K hK=> ?_;have g8:=(HR.out.h8 _ rfl).1;have g9:=(HR.out.h9 _ rfl).1;have c8:=g8.cell 0;have f8:=g8.frozen 0;have c9:=((Kept.refl [_] _).set_ (.inl (List.mem_singleton.2 rfl)) 0 (.pointer (some ⟨x,0,none⟩))).blk g9 (fun hm=>HR.out.n1 _ _ rfl rfl (List.mem_singleton.1 hm).symm);have f9:=c9.frozen 0;have c9:=c9.cell 0;go_simp;refine hK.out _ _ (by exact HALL.out _ (HR.out.s8 _)) (fun hHeld=>tS ?_);clear hK K;refine hO 13 none rfl fun K hK=> ?_;go_simp;refine hK.out _ _ (by exact HALL.out _ (HR.out.s9 _ _)) (fun hHeld=>tS ?_);clear hK K;refine wpAnyH_done (by kernel_rfl) ?_ _;refine NoPanic.normal ?_;have HF:=HR.out.fin;go_wp2_with fail;go_meet;exact⟨_,_,_,rfl,rfl,hide HF.1,hide HF.2.1,hide HF.2.2.1,hide HF.2.2.2.1,hide HF.2.2.2.2⟩
   ·(try generalize w0.drew=wd at HR hHeld ⊢)
    go_simp;obtain⟨wm,hwm,HR'⟩:=HR.out.a9.exw;rw[hwm];clear hwm;have HR:=hide HR';clear HR';refine hK _ _ (by exact HALL.out _ HR.out.k) ?_;have hHeld:=HALL.out _ HR.out.k;clear hK K
    try simp only[Act.put,pA,pB,pC]
    refine hO 9 (some 23) rfl fun K hK=> ?_
    (try generalize w0.drew=wd at HR hHeld ⊢)
    go_simp;refine(HNEW.out _ (HGE.out.kept hHeld.1)).mono ?_;rintro e wn ⟨x,rfl,hx,hsc,hkn⟩;have HR:=hide (HR.out.ax hkn hx hsc);refine hK.out _ _ (by exact HALL.out _ HR.out.k) (fun hHeld=>tS ?_);clear hK K;refine hO 12 none rfl fun K hK=> ?_;have g8:=(HR.out.h8 _ rfl).1;have g9:=(HR.out.h9 _ rfl).1;have c8:=g8.cell 0;have f8:=g8.frozen 0;have c9:=((Kept.refl [_] _).set_ (.inl (List.mem_singleton.2 rfl)) 0 (.pointer (some ⟨x,0,none⟩))).blk g9 (fun hm=>HR.out.n1 _ _ rfl rfl (List.mem_singleton.1 hm).symm);have f9:=c9.frozen 0;have c9:=c9.cell 0;go_simp;refine hK.out _ _ (by exact HALL.out _ (HR.out.s8 _)) (fun hHeld=>tS ?_);clear hK K;refine hO 13 none rfl fun K hK=> ?_;go_simp;refine hK.out _ _ (by exact HALL.out _ (HR.out.s9 _ _)) (fun hHeld=>tS ?_);clear hK K;refine wpAnyH_done (by kernel_rfl) ?_ _;refine NoPanic.normal ?_;have HF:=HR.out.fin;go_wp2_with fail;go_meet;exact⟨_,_,_,rfl,rfl,hide HF.1,hide HF.2.1,hide HF.2.2.1,hide HF.2.2.2.1,hide HF.2.2.2.2⟩
  ·(try generalize w0.drew=wd at HR hHeld ⊢)
   go_simp;obtain⟨wm,hwm,HR'⟩:=HR.out.a9.exw;rw[hwm];clear hwm;have HR:=hide HR';clear HR';refine hK _ _ (by exact HALL.out _ HR.out.k) ?_;have hHeld:=HALL.out _ HR.out.k;clear hK K
   try simp only[Act.put,pA,pB,pC]
   refine next_two (i:=9) (j:=10) (o:=⟨some 23,_,_,_,_,_⟩) (o':=⟨some 8,_,_,_,_,_⟩) (by kernel_rfl) rfl (by rfl) rfl (by rfl) (fun K hK=> ?_) (fun K hK=> ?_)
   ·(try generalize w0.drew=wd at HR hHeld ⊢)
    go_simp;refine(HNEW.out _ (HGE.out.kept hHeld.1)).mono ?_;rintro e wn ⟨x,rfl,hx,hsc,hkn⟩;have HR:=hide (HR.out.ax hkn hx hsc);refine hK _ _ (by exact HALL.out _ HR.out.k) ?_;have hHeld:=HALL.out _ HR.out.k;clear hK K
    try simp only[Act.put,pA,pB,pC]
    refine hO 10 (some 8) rfl fun K hK=> ?_
    (try generalize w0.drew=wd at HR hHeld ⊢)
    go_simp;obtain⟨wm,hwm,HR'⟩:=HR.out.a8.exw;rw[hwm];clear hwm;have HR:=hide HR';clear HR';refine hK.out _ _ (by exact HALL.out _ HR.out.k) (fun hHeld=>tS ?_);clear hK K;refine hO 12 none rfl fun K hK=> ?_;have g8:=(HR.out.h8 _ rfl).1;have g9:=(HR.out.h9 _ rfl).1;have c8:=g8.cell 0;have f8:=g8.frozen 0;have c9:=((Kept.refl [_] _).set_ (.inl (List.mem_singleton.2 rfl)) 0 (.pointer (some ⟨x,0,none⟩))).blk g9 (fun hm=>HR.out.n1 _ _ rfl rfl (List.mem_singleton.1 hm).symm);have f9:=c9.frozen 0;have c9:=c9.cell 0;go_simp;refine hK.out _ _ (by exact HALL.out _ (HR.out.s8 _)) (fun hHeld=>tS ?_);clear hK K;refine hO 13 none rfl fun K hK=> ?_;go_simp;refine hK.out _ _ (by exact HALL.out _ (HR.out.s9 _ _)) (fun hHeld=>tS ?_);clear hK K;refine wpAnyH_done (by kernel_rfl) ?_ _;refine NoPanic.normal ?_;have HF:=HR.out.fin;go_wp2_with fail;go_meet;exact⟨_,_,_,rfl,rfl,hide HF.1,hide HF.2.1,hide HF.2.2.1,hide HF.2.2.2.1,hide HF.2.2.2.2⟩
   ·(try generalize w0.drew=wd at HR hHeld ⊢)
    go_simp;obtain⟨wm,hwm,HR'⟩:=HR.out.a8.exw;rw[hwm];clear hwm;have HR:=hide HR';clear HR';refine hK _ _ (by exact HALL.out _ HR.out.k) ?_;have hHeld:=HALL.out _ HR.out.k;clear hK K
    try simp only[Act.put,pA,pB,pC]
    refine hO 9 (some 23) rfl fun K hK=> ?_
    (try generalize w0.drew=wd at HR hHeld ⊢)
    go_simp;refine(HNEW.out _ (HGE.out.kept hHeld.1)).mono ?_;rintro e wn ⟨x,rfl,hx,hsc,hkn⟩;have HR:=hide (HR.out.ax hkn hx hsc);refine hK.out _ _ (by exact HALL.out _ HR.out.k) (fun hHeld=>tS ?_);clear hK K;refine hO 12 none rfl fun K hK=> ?_;have g8:=(HR.out.h8 _ rfl).1;have g9:=(HR.out.h9 _ rfl).1;have c8:=g8.cell 0;have f8:=g8.frozen 0;have c9:=((Kept.refl [_] _).set_ (.inl (List.mem_singleton.2 rfl)) 0 (.pointer (some ⟨x,0,none⟩))).blk g9 (fun hm=>HR.out.n1 _ _ rfl rfl (List.mem_singleton.1 hm).symm);have f9:=c9.frozen 0;have c9:=c9.cell 0;go_simp;refine hK.out _ _ (by exact HALL.out _ (HR.out.s8 _)) (fun hHeld=>tS ?_);clear hK K;refine hO 13 none rfl fun K hK=> ?_;go_simp;refine hK.out _ _ (by exact HALL.out _ (HR.out.s9 _ _)) (fun hHeld=>tS ?_);clear hK K;refine wpAnyH_done (by kernel_rfl) ?_ _;refine NoPanic.normal ?_;have HF:=HR.out.fin;go_wp2_with fail;go_meet;exact⟨_,_,_,rfl,rfl,hide HF.1,hide HF.2.1,hide HF.2.2.1,hide HF.2.2.2.1,hide HF.2.2.2.2⟩
 case rest=>
  obtain⟨b8,b9,x,rfl,rfl,HB8,HB9,HSC,HKC,HBN⟩:=hcut
  have HOLD:Old ⟨y,y+1,y+1+1,y+1+1+1,y+1+1+1+1,b8,b9,ex⟩ c gp x y F:=by
   have h1:=HZ.out;have h2:=HZ'.out;have h3:=HOL.out;have h4:=HBN.out;have h5:=HB7.out.lt;refine⟨by omega,by omega,fun i hi=>by have:=h3.2.2 i hi;omega,by omega,fun i hi=> ?_,fun hm=> ?_,HCG.out,HCF.out,fun i hi=>by have:=(HEX.out i hi).1;omega⟩
   ·unfold Sb.all at hi;simp at hi
    omega
   ·unfold Sb.all at hm;simp at hm
    omega
  have HO:=sealed HOLD;have HB3w:=hide (HKC.out.blk HB3.out (by simp));have HB4w:=hide (HKC.out.blk HB4.out (by simp));have HB5w:=hide (HKC.out.blk HB5.out (by simp));have HB6w:=hide (HKC.out.blk HB6.out (by simp));have HB7w:=hide (HKC.out.blk HB7.out (by simp));have HCw:=hide (HC.out.kept HKC.out (by simp));have HGw:=hide (HGE.out.kept HKC.out);have HVw:=hide (HV.out.kept HKC.out (by simp));have HKw:=hide (HK0.out.trans HKC.out (by simp));have c8:=HB8.out.cell 0;clear HB3 HB4 HB5 HB6 HB7 HC HGE HV HK0 HKC HALL HNEW HR HOLD;go_wp2_with fail;refine(records_any (some ⟨x,0,none⟩) _).mono ?_;rintro e w' ⟨rfl,rfl⟩;obtain⟨Bs,hBs⟩:∃ Bs,wc.heap.size=Bs:=⟨_,rfl⟩;have hks:=(Kept.refl [] wc).alloc (.cells #[.pointer (some ⟨x,0,none⟩)] 49);have hbs:=Blk.new wc 49 #[.pointer (some ⟨x,0,none⟩)];simp only[hBs]at hbs ⊢;obtain⟨wA,hwA⟩:∃ wA,wc.alloc (.cells #[.pointer (some ⟨x,0,none⟩)] 49)=wA:=⟨_,rfl⟩;rw[hwA]at hks hbs ⊢;have HBS:=hide hbs;have HKS:=hide hks;clear hks hbs c8;go_wp2;refine(wpIn_wide (n:=3)).1 ?_
  refine range_tell (w:=wA) (by omega) (gf:=148) (lb:=#[.pointer (some ⟨Bs,0,none⟩)]) rfl (enters_of Tryz.func148 (by kernel_rfl) rfl) rfl L
   (fun I W=>∃ q,W.heap.size≤q∧I=[q,x]) (Sb.turned ⟨y,y+1,y+1+1,y+1+1+1,y+1+1+1+1,b8,b9,ex⟩ c++C0) (fun o W=>o=none→ScAt W x dv a z p false E err)
   (SegN N ⟨y,y+1,y+1+1,y+1+1+1,y+1+1+1+1,b8,b9,ex⟩ lp c d gp x y F C0 w D b s l r q fr p a z pre0) (SegX Nx ⟨y,y+1,y+1+1,y+1+1+1,y+1+1+1+1,b8,b9,ex⟩ lp c d gp x y F C0 w D b s l r q fr p a z pre0 L) (fun pk R W=>TellAt W x dv a z p false D pk R) F
   (SegN.abides HN.out HO.out hz) (fun code=>SegX.abides HNX.out HO.out hz code) (SegN.lt HCL.out HO.out hz) ?hG ?hseq ?hI0 ?hC0 ?h0 ?hround ?hdone ?hstop
  case hG=>
   rintro b W i o o' hg hi ho hc hb
   exact(hg hb).kept (kept_put W i o') (by have h1:=HBN.out;have h2:=HSC.out.lt;have h3:=HKS.out.size;simp;omega)
  case hseq=>
   intro lp' J Jx hJ hJx hJC hYY W hK hsz hJ0;have hsx:=HSC.out.lt;have hks:=HKS.out.size;have hle:=hK.size;have hbl:=HBS.out.lt;have h1:=HZ.out;have h3:=HOL.out;have h4:=HBN.out;have h6:=HB7w.out.lt;have h9:=HW0.out;have h7:=HKw.out.size;have hcl:=HCL.out _ _ _ _ H0.out;have hBsz:Bs=wc.heap.size:=hBs.symm;have hx8:=HB8.out.lt;have hx9:=HB9.out.lt
   refine(recs_tell (3-1) F D HD.out lp' Bs x dv a z p false p 0 L E err [] J Jx hJ hJx hJC HL.out (fun q pre C W pk R A m cc A2 k dc hj hp hr hl ht=>hYY _ pre C W pk R A m cc A2 k dc hj hp hr hl ht) W ((wA.heap.size+1)::wA.heap.size::(Sb.turned ⟨y,y+1,y+1+1,y+1+1+1,y+1+1+1+1,b8,b9,ex⟩ c++C0)) (fun q hq=>hJ0 [q,x] ⟨q,hq,rfl⟩) (by simp) ?_ ?_
    (hK.blk HBS.out (by simp)) ((HSC.out.kept HKS.out (by simp)).kept hK (by simp)) ?_ (fun y hy=>by have:=h3.2.2 y hy;omega) (fun hm=>by have:=h3.2.2 _ hm;omega) (fun hm=>by have:=h3.2.2 _ hm;omega) (by omega) HBD.out.1 HBD.out.2.1).mono ?_
   ·intro i hi
    simp [Sb.turned]at hi
    rcases hi with hi|hi|hi|hi|hi|hi|hi|hi|hi
    ·omega
    ·omega
    ·omega
    ·omega
    ·omega
    ·omega
    ·omega
    ·have:=(HEX.out i hi).1;omega
    ·have:=hcl i hi;omega
   ·have haa:∀ i,(w.heap.size≤i∧i<wA.heap.size∧i≠y+1∧i≠b9∧i≠y+1+1+1∧i≠y+1+1+1+1)→i∉(wA.heap.size+1)::wA.heap.size::(Sb.turned ⟨y,y+1,y+1+1,y+1+1+1,y+1+1+1+1,b8,b9,ex⟩ c++C0):=fun i hi hm=>by
     simp [Sb.turned]at hm
     rcases hm with hm|hm|hm|hm|hm|hm|hm|hm|hm
     ·omega
     ·omega
     ·omega
     ·omega
     ·omega
     ·omega
     ·omega
     ·have:=(HEX.out i hm).1;omega
     ·have:=hcl i hm;omega
    refine⟨haa _ (by omega),haa _ (by omega),fun i hi hm=> ?_⟩;have hi2:=h3.2.2 i hi
    simp [Sb.turned]at hm
    rcases hm with hm|hm|hm|hm|hm|hm|hm|hm|hm
    ·omega
    ·omega
    ·omega
    ·omega
    ·omega
    ·omega
    ·subst hm;exact HCF.out hi
    ·exact(HEX.out i hm).2 hi
    ·exact HAP.out i (.inr (.inr hi)) hm
   ·intro hz0;exact⟨d,(HBD.out.2.2 hz0).1,(HVw.out.kept HKS.out (by simp)).kept hK (by simp)⟩
   ·rintro e W' ⟨hv,hkk,q,C,hap,hd,(⟨hn,hsc⟩|⟨pre,pk,ov,_,_,_,hnx,_⟩)⟩
    ·exact⟨hv,_,C,.inl ⟨hn,fun _=>hsc⟩⟩
    ·exact⟨hv,_,C,.inr ⟨pre,hnx,fun h=>by cases h⟩⟩
  case hI0=>
   rintro I W hk hsz ⟨q,hq,rfl⟩
   have:=HSC.out.lt
   have:=HKS.out.size
   simp
   omega
  case hC0=>
   intro i hi;have hks:=HKS.out.size;have hcl:=HCL.out _ _ _ _ H0.out;have h1:=HZ.out;have h3:=HOL.out;have h6:=HB7w.out.lt;have h9:=HW0.out;have h7:=HKw.out.size;have hx9:=HB9.out.lt
   simp [Sb.turned]at hi
   rcases hi with hi|hi|hi|hi|hi|hi|hi
   ·omega
   ·omega
   ·omega
   ·omega
   ·omega
   ·have:=(HEX.out i hi).1;omega
   ·have:=hcl i hi;omega
  case h0=>
   rintro I W hk hsz ⟨qq,hq,rfl⟩;have hks:=HKS.out.size;have hcl:=HCL.out _ _ _ _ H0.out;have h1:=HZ.out;have h2:=HZ'.out;have h3:=HOL.out;have h4:=HBN.out;have h6:=HB7w.out.lt;have h7:=HKw.out.size;have hx9:=HB9.out.lt;have hx8:=HB8.out.lt;have h9:=HW0.out;have hkk:Kept [] w W:=(HKw.out.trans HKS.out (by simp)).trans hk (by simp);have hka:Kept [] wc W:=HKS.out.trans hk (by simp);refine⟨C0,p,false,en0,er0,⟨rfl,hka.blk HB3w.out (by simp),hka.blk HB4w.out (by simp),hka.blk HB5w.out (by simp),hka.blk HB6w.out (by simp),hka.blk HB7w.out (by simp),hka.blk HB8.out (by simp),hka.blk HB9.out (by simp),HCw.out.kept hka (by simp),HGw.out.kept hka,HVw.out.kept hka (by simp),fun i hi=> .inl hi,hkk.mono (by simp),?_,?_⟩,⟨.nil,fun h=>absurd rfl h⟩,?_⟩
   ·intro i hi;simp at hi
    rcases hi with rfl|rfl|rfl
    ·refine⟨by omega,fun hm=> ?_⟩
     simp [Sb.all]at hm
     omega
    ·refine⟨by omega,fun hm=> ?_⟩
     simp [Sb.all]at hm
     omega
    ·exact⟨by omega,HO.out.obx⟩
   ·rintro i (hi|hi) hm
    ·have:=hcl i hm
     simp [Sb.all]at hi
     omega
    ·exact HAP.out i hi hm
   ·rw[List.append_nil];refine HN.out _ _ _ _ _ _ (HG.out (c::ex) _ pre0 C0 w H0.out ?_) hkk (by simp);intro i hi
    by_cases hx:i∈ex
    ·simp [hx]
    simp [Sb.turned,hx]at hi ⊢
    omega
  case hround=>
   rintro lp2 I pre Cs pk R A m cc A2 k dc W K ⟨C,at_,on,en,er,hw,hst,hn⟩ hpre hrc hIl ⟨sm,hfo,hsc⟩ hlp hlpI hlpW hKK;have HKK:=hide hKK;clear hKK;have HPK:=sealed (followed_eq hst.1 HL.out hpre (fun h=>(HBD.out.2.2 h).2));have HFO:=sealed hfo;have HPRE:=hide hpre;have HST:=hide hst;have HRN:=sealed (follow_ok HD.out hfo).1.2.2.2.1.2;have HRL:=sealed hrc.hn;clear hst hpre hfo;unfold recVal
   gi_wp2
   have hka:=(Kept.refl [] W).alloc (.cells #[.int .i64 R.m,.int .i64 R.l,.int .i64 R.p,.slice A m cc,.slice A2 k dc] 111);have hbr:=Blk.new W 111 #[.int .i64 R.m,.int .i64 R.l,.int .i64 R.p,.slice A m cc,.slice A2 k dc];obtain⟨rr,hrr⟩:∃ rr,W.heap.size=rr:=⟨_,rfl⟩;rw[hrr]at hbr hlpW ⊢;refine HKK.out _ _ _ (fun y hy=> .inl hy) hka ?_;intro W2 hk2;clear HKK K;have HW2:=hide ((hw.abide HO.out hz hka (by simp)).abide HO.out hz hk2 (by simpa using hlpI));have HN2:=hide (HN.out _ _ _ _ _ _ (HN.out _ _ _ _ _ _ hn hka (by simp)) hk2 (by simpa using .inl hlpI));have HRC2:=hide ((hrc.kept hka (by simp)).kept hk2 (fun i hi=>by simp at hi;subst hi;simp [hlpI]));have HBR2:=hide (hk2.blk hbr (by simp;omega))
   have hxlp:x≠lp2:=by have h1:=HSC.out.lt;have h2:=HKS.out.size;omega
   have HSC2:=hide ((hsc.kept hka (by simp)).kept hk2 (by simpa using hxlp));have hs2:=Nat.le_trans hka.size hk2.size;have HIL2:=hide (fun y hy=>Nat.lt_of_lt_of_le (hIl y hy) hs2);have HK2:=sealed hw.cs;clear hw hn hrc hbr hsc hka hk2 hIl hs2;have t3:=HW2.out.x3.cell 0;obtain⟨p0,p1,p2,p3,p4⟩:=cell5 HW2.out.x4
   gi_wp2_with (refine⟨trivial,?_⟩;gi_at_call 191;refine(calls_round (followed_any F D HD.out c d gp fr en er b s l r q at_ _ HW2.out.cc HW2.out.geo HW2.out.disk)).mono ?_;rintro e W3 ⟨rfl,hk3⟩;rw[HPK.out];unfold Ps.val)
   obtain⟨b12,hb12⟩:∃ b12,W3.heap.size=b12:=⟨_,rfl⟩;have hk4:=(Kept.refl [] W3).alloc (.cells #[.int .i64 pk.s,.int .i64 pk.o,.int .i64 pk.l,.int .i64 pk.v,.int .i64 pk.m] 24);have hx12:=Blk.new W3 24 #[.int .i64 pk.s,.int .i64 pk.o,.int .i64 pk.l,.int .i64 pk.v,.int .i64 pk.m];simp only[hb12]at hx12 ⊢;obtain⟨W4,hW4⟩:∃ W4,W3.alloc (.cells #[.int .i64 pk.s,.int .i64 pk.o,.int .i64 pk.l,.int .i64 pk.v,.int .i64 pk.m] 24)=W4:=⟨_,rfl⟩;rw[hW4]at hk4 hx12 ⊢;have hkt:Kept [] W2 W4:=hk3.trans hk4 (by simp);have HW4:=hide (HW2.out.abide HO.out hz hkt (by simp));have HN4:=hide (HN.out _ _ _ _ _ _ HN2.out hkt (by simp));have HRC4:=hide (HRC2.out.kept hkt (by simp));have HBR4:=hide (hkt.blk HBR2.out (by simp));have HSC4:=hide (HSC2.out.kept hkt (by simp));have HX4:=hide hx12;have HKT:=hide hkt
   have hr12:rr<b12:=by have h1:=HBR2.out.lt;have h2:=hk3.size;omega
   have HIL4:=hide (fun y hy=>Nat.lt_of_lt_of_le (HIL2.out y hy) hkt.size);clear hk3 hk4 hx12 hkt HN2 HRC2 HBR2 HSC2 HIL2 t3 p0 p1 p2 p3 p4;obtain⟨at2,hat2⟩:∃ at2,(stepOn s (behind pk R sm) R).1=at2:=⟨_,rfl⟩;obtain⟨on2,hon2⟩:∃ on2,(stepOn s (behind pk R sm) R).2=on2:=⟨_,rfl⟩;have HST5:Hid (Stand D a z s p (pre++[(pk,R)]) at2 on2):=hide (by rw[←hat2,←hon2];exact .snoc pre pk R sm HFO.out);have HONW:=hide (fun W hcc hgg hvv=>(onward_any c d gp fr en er b s l r q (behind pk R sm) R A A2 m cc k dc W hcc hgg hvv HRL.out (by have:=HRN.out;have:=HRL.out;omega)).mono (R':=fun e w'=>e= .returned (.tuple #[.agg #[.int .i64 at2.s,.int .i64 at2.o,.int .i64 at2.l,.int .i64 at2.v,.int .i64 at2.m],.bool on2])∧Kept [] W w') (fun e w' h=>by rw[hat2,hon2]at h;exact h));clear hat2 hon2;have HKD:=hide ((Kept.refl [] W4).drew)
   have hyr:y+1+1+1+1<rr∧b9<rr∧b8<rr:=by
    have h1:=HB7w.out.lt;have h2:=HB9.out.lt;have h3:=HB8.out.lt;have h4:=HKS.out.size
    omega
   have h89:b8≠b9:=HBN.out.2.2.2.1
   have hy9:y+1+1+1+1<b9∧y+1+1+1+1<b8:=by have h1:=HW0.out;have h2:=HBN.out;omega
   have HALL2:=hide (show ∀ W,Kept [y+1,b9] W4 W→(fun W=>W.cell? ⟨y,0,none⟩=some (.pointer (some ⟨c,0,none⟩))∧W.cell? ⟨b8,0,none⟩=some (.pointer (some ⟨x,0,none⟩))∧W.cell? ⟨rr,0,none⟩=some (.int .i64 R.m)∧W.cell? ⟨rr,1,none⟩=some (.int .i64 R.l)∧W.cell? ⟨rr,2,none⟩=some (.int .i64 R.p)∧W.cell? ⟨rr,3,none⟩=some (.slice A m cc)∧W.cell? ⟨rr,4,none⟩=some (.slice A2 k dc)) W from fun W kw=>⟨kw.cell (HW4.out.x3.cell 0) (by simp;omega),kw.cell (HW4.out.x8.cell 0) (by simp;omega),kw.cell (HBR4.out.cell 0) (by simp;omega),kw.cell (HBR4.out.cell 1) (by simp;omega),kw.cell (HBR4.out.cell 2) (by simp;omega),kw.cell (HBR4.out.cell 3) (by simp;omega),kw.cell (HBR4.out.cell 4) (by simp;omega)⟩);refine round_held (S:=fun W=>W.cell? ⟨y,0,none⟩=some (.pointer (some ⟨c,0,none⟩))∧W.cell? ⟨b8,0,none⟩=some (.pointer (some ⟨x,0,none⟩))∧W.cell? ⟨rr,0,none⟩=some (.int .i64 R.m)∧W.cell? ⟨rr,1,none⟩=some (.int .i64 R.l)∧W.cell? ⟨rr,2,none⟩=some (.int .i64 R.p)∧W.cell? ⟨rr,3,none⟩=some (.slice A m cc)∧W.cell? ⟨rr,4,none⟩=some (.slice A2 k dc)) (by kernel_rfl) (by kernel_rfl) (by exact HALL2.out _ (HKD.out.mono (by simp))) (fun hHeld=> ?_);refine tK 0 32 rfl ?_;refine tK 1 33 rfl ?_;refine tK 3 35 rfl ?_;refine hO 2 (some 34) rfl fun K hK=> ?_;go_simp;refine(end_any x dv a z p false (behind pk R sm) 0 _ (HSC4.out.kept HKD.out (by simp))).mono ?_;rintro e W5 ⟨rfl,hk5⟩;have HK5:=hide (HKD.out.trans hk5 (by simp));refine hK.out _ _ (by exact HALL2.out _ (HK5.out.mono (by simp))) (fun hHeld=>tS ?_);clear hK K
   refine hO 4 (some 36) rfl fun K hK=> ?_;go_simp;refine(HONW.out _ (HW4.out.cc.kept HK5.out (by simp)) (HW4.out.geo.kept HK5.out) ((HRC4.out.kept HK5.out (by simp)).less (S':=[]) (by simp)).its).mono ?_;rintro e W6 ⟨rfl,hk6⟩;have HK6:=hide (HK5.out.trans hk6 (by simp));have HX46:=hide (HK6.out.blk HW4.out.x4 (by simp));have HX96:=hide (HK6.out.blk HW4.out.x9 (by simp));obtain⟨p0,p1,p2,p3,p4⟩:=cell5 HX46.out;have f4:=HX46.out.frozen;refine hK.out _ _ (by exact HALL2.out _ (HK6.out.mono (by simp))) (fun hHeld=>tS ?_);clear hK K;refine tK 5 31 rfl ?_;refine tK 6 37 rfl ?_;refine tK 7 38 rfl ?_;refine hO 8 none rfl fun K hK=> ?_;go_simp;have HX47:=hide ((Blk.set_ (Blk.set_ (Blk.set_ (Blk.set_ (Blk.set_ HX46.out 0 (.int .i64 at2.s)) 1 (.int .i64 at2.o)) 2 (.int .i64 at2.l)) 3 (.int .i64 at2.v)) 4 (.int .i64 at2.m)));have HK7:=hide ((HK6.out.mono (S':=[y+1]) (by simp)).trans (((((((Kept.refl [y+1] W6).set_ (b:=y+1) (.inl (by simp)) 0 (.int .i64 at2.s)).set_ (b:=y+1) (.inl (by simp)) 1 (.int .i64 at2.o)).set_ (b:=y+1) (.inl (by simp)) 2 (.int .i64 at2.l)).set_ (b:=y+1) (.inl (by simp)) 3 (.int .i64 at2.v)).set_ (b:=y+1) (.inl (by simp)) 4 (.int .i64 at2.m))) (by simp));have HX97:=hide ((((((((Kept.refl [y+1] W6).set_ (b:=y+1) (.inl (by simp)) 0 (.int .i64 at2.s)).set_ (b:=y+1) (.inl (by simp)) 1 (.int .i64 at2.o)).set_ (b:=y+1) (.inl (by simp)) 2 (.int .i64 at2.l)).set_ (b:=y+1) (.inl (by simp)) 3 (.int .i64 at2.v)).set_ (b:=y+1) (.inl (by simp)) 4 (.int .i64 at2.m))).blk HX96.out (by simp;omega))
   generalize (((((W6.setCell ⟨y+1,0,none⟩ (.int .i64 at2.s)).setCell ⟨y+1,1,none⟩ (.int .i64 at2.o)).setCell ⟨y+1,2,none⟩ (.int .i64 at2.l)).setCell ⟨y+1,3,none⟩ (.int .i64 at2.v)).setCell ⟨y+1,4,none⟩ (.int .i64 at2.m))=W7 at HX47 HK7 HX97 ⊢;have c9:=HX97.out.cell 0;have f9:=HX97.out.frozen 0;refine hK.out _ _ (by exact HALL2.out _ (HK7.out.mono (by simp))) (fun hHeld=>tS ?_);clear hK K;refine hO 9 none rfl fun K hK=> ?_;go_simp;have HX98:=hide (Blk.set_ HX97.out 0 (.bool on2));have HK8:=hide ((HK7.out.mono (S':=[y+1,b9]) (by simp)).trans ((Kept.refl [b9] W7).set_ (b:=b9) (.inl (by simp)) 0 (.bool on2)) (by simp));have HX48:=hide (((Kept.refl [b9] W7).set_ (b:=b9) (.inl (by simp)) 0 (.bool on2)).blk HX47.out (by simp;omega));generalize W7.setCell ⟨b9,0,none⟩ (.bool on2)=W8 at HX98 HK8 HX48 ⊢;refine hK.out _ _ (by exact HALL2.out _ HK8.out) (fun hHeld=>tS ?_);clear hK K;refine wpAnyH_done (by kernel_rfl) ?_ _;refine Only.normal ?_
   have hd4:y+1∉[y,y+1+1,y+1+1+1,y+1+1+1+1,b8]:=by simp;omega
   have hd9:b9∉[y,y+1+1,y+1+1+1,y+1+1+1+1,b8]:=by simp;omega
   have hcr:c<y:=by have h1:=HOL.out;have h2:=HZ.out;omega
   have HW8:=hide (HW4.out.place HO.out hz hd4 hd9 HK8.out HX48.out HX98.out);have HN8:=hide (HN.out _ _ _ _ _ _ HN4.out HK8.out (fun i hi=>List.mem_append_right _ (by simp [Sb.turned]at hi ⊢;omega)));have HRC8:=hide (HRC4.out.kept HK8.out (fun i hi=>by rw[HK2.out];simp [Sb.turned]at hi ⊢;omega));have HBR8:=hide (HK8.out.blk HBR4.out (by simp;omega));have HX8:=hide (HK8.out.blk HX4.out (by have h1:=HBR4.out.lt;simp;omega));have HKT8:=hide ((HKT.out.mono (S':=[y+1,b9]) (by simp)).trans HK8.out (by simp));have HIL8:=hide (fun y hy=>Nat.lt_of_lt_of_le (HIL4.out y hy) HK8.out.size);clear HW4 HN4 HRC4 HBR4 HX4 HKT HIL4 HSC4 HK5 HK6 HK7 HK8 HX46 HX96 HX47 HX97 HX48 HX98 HALL2 HONW HKD hHeld p0 p1 p2 p3 p4 f4 c9 f9 hd4 hd9
   gi_wp2
   have HKca:=hide ((((((((Kept.refl [c] W8).set_ (b:=c) (.inl (by simp)) 7 (.int .i64 at2.s)).set_ (b:=c) (.inl (by simp)) 8 (.int .i64 at2.o)).set_ (b:=c) (.inl (by simp)) 9 (.int .i64 at2.l)).set_ (b:=c) (.inl (by simp)) 10 (.int .i64 at2.v)).set_ (b:=c) (.inl (by simp)) 11 (.int .i64 at2.m))).drew);have HCca:=hide ((CcAt.setEnd HW8.out.cc at2).kept (Kept.refl [] _).drew (by simp));have HALLa:=hide (show ∀ W,Kept [c] W8 W→(fun W=>W.cell? ⟨y,0,none⟩=some (.pointer (some ⟨c,0,none⟩))∧W.cell? ⟨y+1,0,none⟩=some (.int .i64 at2.s)∧W.cell? ⟨y+1,1,none⟩=some (.int .i64 at2.o)∧W.cell? ⟨y+1,2,none⟩=some (.int .i64 at2.l)∧W.cell? ⟨y+1,3,none⟩=some (.int .i64 at2.v)∧W.cell? ⟨y+1,4,none⟩=some (.int .i64 at2.m)) W from fun W kw=>⟨kw.cell (HW8.out.x3.cell 0) (by simp;omega),kw.cell (HW8.out.x4.cell 0) (by simp;omega),kw.cell (HW8.out.x4.cell 1) (by simp;omega),kw.cell (HW8.out.x4.cell 2) (by simp;omega),kw.cell (HW8.out.x4.cell 3) (by simp;omega),kw.cell (HW8.out.x4.cell 4) (by simp;omega)⟩);obtain⟨e7,e8,e9,e10,e11,_⟩:=HW8.out.cc.end_;have f7:=HW8.out.cc.frozen 7;have f8:=HW8.out.cc.frozen 8;have f9:=HW8.out.cc.frozen 9;have f10:=HW8.out.cc.frozen 10;have f11:=HW8.out.cc.frozen 11;refine round_held (S:=fun W=>W.cell? ⟨y,0,none⟩=some (.pointer (some ⟨c,0,none⟩))∧W.cell? ⟨y+1,0,none⟩=some (.int .i64 at2.s)∧W.cell? ⟨y+1,1,none⟩=some (.int .i64 at2.o)∧W.cell? ⟨y+1,2,none⟩=some (.int .i64 at2.l)∧W.cell? ⟨y+1,3,none⟩=some (.int .i64 at2.v)∧W.cell? ⟨y+1,4,none⟩=some (.int .i64 at2.m)) (by kernel_rfl) (by kernel_rfl) (by exact HALLa.out _ ((Kept.refl [c] _).drew)) (fun hHeld=> ?_)
   refine tK 0 39 rfl ?_;refine tK 1 40 rfl ?_;refine tK 2 41 rfl ?_;refine tK 3 42 rfl ?_;refine tK 4 43 rfl ?_;refine hO 5 none rfl fun K hK=> ?_;go_simp;generalize (((((W8.setCell ⟨c,7,none⟩ (.int .i64 at2.s)).setCell ⟨c,8,none⟩ (.int .i64 at2.o)).setCell ⟨c,9,none⟩ (.int .i64 at2.l)).setCell ⟨c,10,none⟩ (.int .i64 at2.v)).setCell ⟨c,11,none⟩ (.int .i64 at2.m)).drew=WA at HKca HCca ⊢;have f12:=HCca.out.frozen 12;have e12:=HCca.out.end_.2.2.2.2.2;refine hK.out _ _ (by exact HALLa.out _ HKca.out) (fun hHeld=>tS ?_);clear hK K;refine tK 6 44 rfl ?_;refine tK 7 45 rfl ?_;refine hO 8 none rfl fun K hK=> ?_;go_simp;have HCda:=hide (HCca.out.setErr 0);have HKda:=hide (HKca.out.set_ (b:=c) (.inl (by simp)) 12 (.int .i64 0));generalize WA.setCell ⟨c,12,none⟩ (.int .i64 0)=W9 at HCda HKda ⊢;refine hK.out _ _ (by exact HALLa.out _ HKda.out) (fun hHeld=>tS ?_);clear hK K;refine wpAnyH_done (by kernel_rfl) ?_ _;refine Only.normal ?_;clear e7 e8 e9 e10 e11 e12 f7 f8 f9 f10 f11 f12;have HW9:=hide (HW8.out.ends HO.out HKda.out HCda.out);have HN9:=hide (HN.out _ _ _ _ _ _ HN8.out HKda.out (fun i hi=>List.mem_append_right _ (by simp [Sb.turned]at hi ⊢;omega)));have HRC9:=hide (HRC8.out.kept HKda.out (fun i hi=>by rw[HK2.out];simp [Sb.turned]at hi ⊢;omega));have HBR9:=hide (HKda.out.blk HBR8.out (by simp;omega));have HX9:=hide (HKda.out.blk HX8.out (by simp;omega));have HKT9:=hide ((HKT8.out.mono (S':=[y+1,b9,c]) (fun i hi=>by simp at hi ⊢;omega)).trans (HKda.out.mono (S':=[y+1,b9,c]) (by simp)) (by simp))
   have HIL9:Hid (∀ i∈I++Sb.turned ⟨y,y+1,y+1+1,y+1+1+1,y+1+1+1+1,b8,b9,ex⟩ c,i<W9.heap.size):=hide (fun i hi=>by
    rcases List.mem_append.1 hi with hi|hi
    ·exact Nat.lt_of_lt_of_le (HIL8.out i hi) HKda.out.size
    ·by_cases hx:i∈ex
     ·have h1:=(HEX.out i hx).1;have h2:=HW9.out.kept.size;omega
     refine HW9.out.lts HO.out hz i ?_
     simp [Sb.turned,Sb.all,hx]at hi ⊢
     omega)
   clear HW8 HN8 HRC8 HBR8 HX8 HKT8 HIL8 HKca HCca HALLa HKda HCda hHeld;obtain⟨fn,tmps,assign,body,hy,hR⟩:=yield_level (m':=3-1-1) (HY.out (I++Sb.turned ⟨y,y+1,y+1+1,y+1+1+1,y+1+1+1+1,b8,b9,ex⟩ c) pre C W9 pk R A m cc A2 k dc (by simp [Sb.turned]) HN9.out HPRE.out (by have:=HRC9.out;rw[HK2.out,←List.append_assoc]at this;exact this) HIL9.out);unfold Ps.val recVal at hy;have t5:=HW9.out.x5.cell 0;obtain⟨p0,p1,p2,p3,p4⟩:=cell5 HX9.out;obtain⟨r0,r1,r2,r3,r4⟩:=cell5 HBR9.out
   gi_wp2
   refine(round_in hR).mono ?_;clear hy hR t5 p0 p1 p2 p3 p4 r0 r1 r2 r3 r4;rintro e W10 ⟨C',hC',hk10,hee⟩;have HW10:=hide (HW9.out.client hz hk10 hC' (HW9.out.lts HO.out hz));have HKT10:=hide (show Kept Cs W2 W10 from(HKT9.out.mono (fun i hi=>by rw[HK2.out];simp [Sb.turned]at hi ⊢;omega)).trans (hk10.mono (S':=Cs) (fun i hi=>by rw[HK2.out];exact .inl (List.mem_append_right _ hi))) (fun i hi=> .inl hi))
   have HCC:Hid (∀ i∈Sb.turned ⟨y,y+1,y+1+1,y+1+1+1,y+1+1+1+1,b8,b9,ex⟩ c++C',i∈Cs∨W2.heap.size≤i):=hide (fun i hi=>by
    rw[HK2.out]
    rcases List.mem_append.1 hi with hi|hi
    ·exact .inl (List.mem_append_left _ hi)
    ·exact(hC' i hi).imp (fun h=>List.mem_append_right _ h) (fun h=>Nat.le_trans HKT9.out.size h))
   clear hC' hk10 HW9 HN9 HRC9 HBR9 HX9 HKT9 HIL9
   rcases hee with⟨rfl,hn10⟩|⟨rfl,hn10⟩
   ·have HN10:=hide hn10;clear hn10
    gi_wp2
    have HKcb:=hide ((((((((Kept.refl [c] W10).set_ (b:=c) (.inl (by simp)) 7 (.int .i64 at2.s)).set_ (b:=c) (.inl (by simp)) 8 (.int .i64 at2.o)).set_ (b:=c) (.inl (by simp)) 9 (.int .i64 at2.l)).set_ (b:=c) (.inl (by simp)) 10 (.int .i64 at2.v)).set_ (b:=c) (.inl (by simp)) 11 (.int .i64 at2.m))).drew);have HCcb:=hide ((CcAt.setEnd HW10.out.cc at2).kept (Kept.refl [] _).drew (by simp));have HALLb:=hide (show ∀ W,Kept [c] W10 W→(fun W=>W.cell? ⟨y,0,none⟩=some (.pointer (some ⟨c,0,none⟩))∧W.cell? ⟨y+1,0,none⟩=some (.int .i64 at2.s)∧W.cell? ⟨y+1,1,none⟩=some (.int .i64 at2.o)∧W.cell? ⟨y+1,2,none⟩=some (.int .i64 at2.l)∧W.cell? ⟨y+1,3,none⟩=some (.int .i64 at2.v)∧W.cell? ⟨y+1,4,none⟩=some (.int .i64 at2.m)) W from fun W kw=>⟨kw.cell (HW10.out.x3.cell 0) (by simp;omega),kw.cell (HW10.out.x4.cell 0) (by simp;omega),kw.cell (HW10.out.x4.cell 1) (by simp;omega),kw.cell (HW10.out.x4.cell 2) (by simp;omega),kw.cell (HW10.out.x4.cell 3) (by simp;omega),kw.cell (HW10.out.x4.cell 4) (by simp;omega)⟩);obtain⟨e7,e8,e9,e10,e11,_⟩:=HW10.out.cc.end_;have f7:=HW10.out.cc.frozen 7;have f8:=HW10.out.cc.frozen 8;have f9:=HW10.out.cc.frozen 9;have f10:=HW10.out.cc.frozen 10;have f11:=HW10.out.cc.frozen 11;refine round_held (S:=fun W=>W.cell? ⟨y,0,none⟩=some (.pointer (some ⟨c,0,none⟩))∧W.cell? ⟨y+1,0,none⟩=some (.int .i64 at2.s)∧W.cell? ⟨y+1,1,none⟩=some (.int .i64 at2.o)∧W.cell? ⟨y+1,2,none⟩=some (.int .i64 at2.l)∧W.cell? ⟨y+1,3,none⟩=some (.int .i64 at2.v)∧W.cell? ⟨y+1,4,none⟩=some (.int .i64 at2.m)) (by kernel_rfl) (by kernel_rfl) (by exact HALLb.out _ ((Kept.refl [c] _).drew)) (fun hHeld=> ?_)
    refine tK 0 50 rfl ?_;refine tK 1 51 rfl ?_;refine tK 2 52 rfl ?_;refine tK 3 53 rfl ?_;refine tK 4 54 rfl ?_;refine hO 5 none rfl fun K hK=> ?_;go_simp;generalize (((((W10.setCell ⟨c,7,none⟩ (.int .i64 at2.s)).setCell ⟨c,8,none⟩ (.int .i64 at2.o)).setCell ⟨c,9,none⟩ (.int .i64 at2.l)).setCell ⟨c,10,none⟩ (.int .i64 at2.v)).setCell ⟨c,11,none⟩ (.int .i64 at2.m)).drew=WA at HKcb HCcb ⊢;have f12:=HCcb.out.frozen 12;have e12:=HCcb.out.end_.2.2.2.2.2;refine hK.out _ _ (by exact HALLb.out _ HKcb.out) (fun hHeld=>tS ?_);clear hK K;refine tK 6 55 rfl ?_;refine tK 7 56 rfl ?_;refine hO 8 none rfl fun K hK=> ?_;go_simp;have HCdb:=hide (HCcb.out.setErr 0);have HKdb:=hide (HKcb.out.set_ (b:=c) (.inl (by simp)) 12 (.int .i64 0));generalize WA.setCell ⟨c,12,none⟩ (.int .i64 0)=W11 at HCdb HKdb ⊢;refine hK.out _ _ (by exact HALLb.out _ HKdb.out) (fun hHeld=>tS ?_);clear hK K;refine wpAnyH_done (by kernel_rfl) ?_ _;refine Only.normal ?_;clear e7 e8 e9 e10 e11 e12 f7 f8 f9 f10 f11 f12;have HW11:=hide (HW10.out.ends HO.out HKdb.out HCdb.out);have HN11:=hide (HN.out _ _ _ _ _ _ HN10.out HKdb.out (fun i hi=>List.mem_append_right _ (by simp [Sb.turned]at hi ⊢;omega)));have HKT11:=hide (show Kept Cs W2 W11 from HKT10.out.trans (HKdb.out.mono (S':=Cs) (fun i hi=>by rw[HK2.out];simp [Sb.turned]at hi ⊢;omega)) (fun i hi=> .inl hi));clear HW10 HN10 HKT10 HKcb HCcb HALLb HKdb HCdb hHeld
    gi_wp2
    exact⟨_,HCC.out,HKT11.out,C',at2,on2,at2,0,HW11.out,⟨HST5.out,fun _=>⟨rfl,rfl⟩⟩,HN11.out⟩
   ·have HN10:=hide hn10;clear hn10
    gi_wp2
    have HKcd:=hide ((((((((Kept.refl [c] W10).set_ (b:=c) (.inl (by simp)) 7 (.int .i64 at2.s)).set_ (b:=c) (.inl (by simp)) 8 (.int .i64 at2.o)).set_ (b:=c) (.inl (by simp)) 9 (.int .i64 at2.l)).set_ (b:=c) (.inl (by simp)) 10 (.int .i64 at2.v)).set_ (b:=c) (.inl (by simp)) 11 (.int .i64 at2.m))).drew);have HCcd:=hide ((CcAt.setEnd HW10.out.cc at2).kept (Kept.refl [] _).drew (by simp));have HALLd:=hide (show ∀ W,Kept [c] W10 W→(fun W=>W.cell? ⟨y,0,none⟩=some (.pointer (some ⟨c,0,none⟩))∧W.cell? ⟨y+1,0,none⟩=some (.int .i64 at2.s)∧W.cell? ⟨y+1,1,none⟩=some (.int .i64 at2.o)∧W.cell? ⟨y+1,2,none⟩=some (.int .i64 at2.l)∧W.cell? ⟨y+1,3,none⟩=some (.int .i64 at2.v)∧W.cell? ⟨y+1,4,none⟩=some (.int .i64 at2.m)) W from fun W kw=>⟨kw.cell (HW10.out.x3.cell 0) (by simp;omega),kw.cell (HW10.out.x4.cell 0) (by simp;omega),kw.cell (HW10.out.x4.cell 1) (by simp;omega),kw.cell (HW10.out.x4.cell 2) (by simp;omega),kw.cell (HW10.out.x4.cell 3) (by simp;omega),kw.cell (HW10.out.x4.cell 4) (by simp;omega)⟩);obtain⟨e7,e8,e9,e10,e11,_⟩:=HW10.out.cc.end_;have f7:=HW10.out.cc.frozen 7;have f8:=HW10.out.cc.frozen 8;have f9:=HW10.out.cc.frozen 9;have f10:=HW10.out.cc.frozen 10;have f11:=HW10.out.cc.frozen 11;refine round_held (S:=fun W=>W.cell? ⟨y,0,none⟩=some (.pointer (some ⟨c,0,none⟩))∧W.cell? ⟨y+1,0,none⟩=some (.int .i64 at2.s)∧W.cell? ⟨y+1,1,none⟩=some (.int .i64 at2.o)∧W.cell? ⟨y+1,2,none⟩=some (.int .i64 at2.l)∧W.cell? ⟨y+1,3,none⟩=some (.int .i64 at2.v)∧W.cell? ⟨y+1,4,none⟩=some (.int .i64 at2.m)) (by kernel_rfl) (by kernel_rfl) (by exact HALLd.out _ ((Kept.refl [c] _).drew)) (fun hHeld=> ?_)
    refine tK 0 50 rfl ?_;refine tK 1 51 rfl ?_;refine tK 2 52 rfl ?_;refine tK 3 53 rfl ?_;refine tK 4 54 rfl ?_;refine hO 5 none rfl fun K hK=> ?_;go_simp;generalize (((((W10.setCell ⟨c,7,none⟩ (.int .i64 at2.s)).setCell ⟨c,8,none⟩ (.int .i64 at2.o)).setCell ⟨c,9,none⟩ (.int .i64 at2.l)).setCell ⟨c,10,none⟩ (.int .i64 at2.v)).setCell ⟨c,11,none⟩ (.int .i64 at2.m)).drew=WA at HKcd HCcd ⊢;have f12:=HCcd.out.frozen 12;have e12:=HCcd.out.end_.2.2.2.2.2;refine hK.out _ _ (by exact HALLd.out _ HKcd.out) (fun hHeld=>tS ?_);clear hK K;refine tK 6 55 rfl ?_;refine tK 7 56 rfl ?_;refine hO 8 none rfl fun K hK=> ?_;go_simp;have HCdd:=hide (HCcd.out.setErr 0);have HKdd:=hide (HKcd.out.set_ (b:=c) (.inl (by simp)) 12 (.int .i64 0));generalize WA.setCell ⟨c,12,none⟩ (.int .i64 0)=W11 at HCdd HKdd ⊢;refine hK.out _ _ (by exact HALLd.out _ HKdd.out) (fun hHeld=>tS ?_);clear hK K;refine wpAnyH_done (by kernel_rfl) ?_ _;refine Only.normal ?_;clear e7 e8 e9 e10 e11 e12 f7 f8 f9 f10 f11 f12;have HW11:=hide (HW10.out.ends HO.out HKdd.out HCdd.out);have HN11:=hide (HNX.out _ _ _ _ _ _ HN10.out HKdd.out (fun i hi=>List.mem_append_right _ (by simp [Sb.turned]at hi ⊢;omega)));have HKT11:=hide (show Kept Cs W2 W11 from HKT10.out.trans (HKdd.out.mono (S':=Cs) (fun i hi=>by rw[HK2.out];simp [Sb.turned]at hi ⊢;omega)) (fun i hi=> .inl hi));clear HW10 HN10 HKT10 HKcd HCcd HALLd HKdd HCdd hHeld;obtain⟨p0,p1,p2,p3,p4⟩:=cell5 HW11.out.x6;have q0:=HW11.out.x7.cell 0;have f6:=HW11.out.x6.frozen;have f70:=HW11.out.x7.frozen 0
    have HK12:=hide ((((((((Kept.refl [y+1+1+1,y+1+1+1+1] W11).set_ (b:=y+1+1+1) (.inl (by simp)) 0 (.int .i64 0)).set_ (b:=y+1+1+1) (.inl (by simp)) 1 (.int .i64 0)).set_ (b:=y+1+1+1) (.inl (by simp)) 2 (.int .i64 0)).set_ (b:=y+1+1+1) (.inl (by simp)) 3 (.int .i64 0)).set_ (b:=y+1+1+1) (.inl (by simp)) 4 (.int .i64 0)).set_ (b:=y+1+1+1+1) (.inl (by simp)) 0 (.bool false)));have HB6n:=hide (((Kept.refl [y+1+1+1+1] (((((W11.setCell ⟨y+1+1+1,0,none⟩ (.int .i64 0)).setCell ⟨y+1+1+1,1,none⟩ (.int .i64 0)).setCell ⟨y+1+1+1,2,none⟩ (.int .i64 0)).setCell ⟨y+1+1+1,3,none⟩ (.int .i64 0)).setCell ⟨y+1+1+1,4,none⟩ (.int .i64 0))).set_ (b:=y+1+1+1+1) (.inl (by simp)) 0 (.bool false)).blk ((Blk.set_ (Blk.set_ (Blk.set_ (Blk.set_ (Blk.set_ HW11.out.x6 0 (.int .i64 0)) 1 (.int .i64 0)) 2 (.int .i64 0)) 3 (.int .i64 0)) 4 (.int .i64 0))) (by simp));have HB7n:=hide (Blk.set_ ((((((((Kept.refl [y+1+1+1] W11).set_ (b:=y+1+1+1) (.inl (by simp)) 0 (.int .i64 0)).set_ (b:=y+1+1+1) (.inl (by simp)) 1 (.int .i64 0)).set_ (b:=y+1+1+1) (.inl (by simp)) 2 (.int .i64 0)).set_ (b:=y+1+1+1) (.inl (by simp)) 3 (.int .i64 0)).set_ (b:=y+1+1+1) (.inl (by simp)) 4 (.int .i64 0))).blk HW11.out.x7 (by simp)) 0 (.bool false))
    gi_wp2
    generalize ((((((W11.setCell ⟨y+1+1+1,0,none⟩ (.int .i64 0)).setCell ⟨y+1+1+1,1,none⟩ (.int .i64 0)).setCell ⟨y+1+1+1,2,none⟩ (.int .i64 0)).setCell ⟨y+1+1+1,3,none⟩ (.int .i64 0)).setCell ⟨y+1+1+1,4,none⟩ (.int .i64 0)).setCell ⟨y+1+1+1+1,0,none⟩ (.bool false))=W13 at HK12 HB6n HB7n ⊢
    have hd6:y+1+1+1∉[y,y+1,y+1+1,b8,b9]:=by simp;omega
    have hd7:y+1+1+1+1∉[y,y+1,y+1+1,b8,b9]:=by simp;omega
    have HW13:=hide (HW11.out.res HO.out hz hd6 hd7 HK12.out HB6n.out HB7n.out);have HN13:=hide (HNX.out _ _ _ _ _ _ HN11.out HK12.out (fun i hi=>List.mem_append_right _ (by simp [Sb.turned]at hi ⊢;omega)));have HKT13:=hide (show Kept Cs W2 W13 from HKT11.out.trans (HK12.out.mono (S':=Cs) (fun i hi=>by rw[HK2.out];simp [Sb.turned]at hi ⊢;omega)) (fun i hi=> .inl hi));exact⟨_,HCC.out,HKT13.out,rfl,C',at2,on2,at2,0,HW13.out,⟨HST5.out,fun _=>⟨rfl,rfl⟩⟩,⟨by simp,HPRE.out⟩,HN13.out⟩
  case hdone=>
   rintro D2 Cs W hD2 ⟨I,C,at_,on,en,er,hw,⟨hst,hen⟩,hn⟩ hg hDC hK;have HW:=hide hw;have HST:=hide hst;have HEN:=hide hen;have HNW:=hide hn;have HSCW:=hide (hg rfl);have HDT:=hide hK;have HDC:=hide hDC;have HDW:=hide hD2;clear hw hst hen hn hg hDC hK hD2;obtain⟨p0,p1,p2,p3,p4⟩:=cell5 HW.out.x4;obtain⟨r0,r1,r2,r3,r4⟩:=cell5 HW.out.x6;have q9:=HW.out.x9.cell 0;have q7:=HW.out.x7.cell 0;have f6:=HW.out.x6.frozen;have f70:=HW.out.x7.frozen 0;have q3:=HW.out.x3.cell 0;have q8:=HW.out.x8.cell 0
   have hyy:c<y∧y+1+1+1+1<wA.heap.size∧b9<wA.heap.size∧y+1+1+1+1<b9:=by
    have h1:=HOL.out;have h2:=HZ.out;have h3:=HB7w.out.lt;have h4:=HB9.out.lt;have h5:=HKS.out.size;have h6:=HW0.out;have h7:=HBN.out
    omega
   cases on with
   | true=>
    have hee:en=at_∧er=0:=HEN.out (by
     obtain⟨_,_,_,pre,pk,R,hp⟩:=HST.out.done HL.out rfl
     rw[hp];simp)
    obtain⟨rfl,rfl⟩:=hee;have HALL3:=hide (show ∀ W',Kept [y+1+1+1,y+1+1+1+1] W W'→(fun W=>W.cell? ⟨y+1,0,none⟩=some (.int .i64 en.s)∧W.cell? ⟨y+1,1,none⟩=some (.int .i64 en.o)∧W.cell? ⟨y+1,2,none⟩=some (.int .i64 en.l)∧W.cell? ⟨y+1,3,none⟩=some (.int .i64 en.v)∧W.cell? ⟨y+1,4,none⟩=some (.int .i64 en.m)∧W.cell? ⟨b9,0,none⟩=some (.bool true)) W' from fun W' kw=>⟨kw.cell p0 (by simp),kw.cell p1 (by simp),kw.cell p2 (by simp),kw.cell p3 (by simp),kw.cell p4 (by simp),kw.cell q9 (by simp;omega)⟩);have HKr:=hide ((((((((Kept.refl [y+1+1+1] W).set_ (b:=y+1+1+1) (.inl (by simp)) 0 (.int .i64 en.s)).set_ (b:=y+1+1+1) (.inl (by simp)) 1 (.int .i64 en.o)).set_ (b:=y+1+1+1) (.inl (by simp)) 2 (.int .i64 en.l)).set_ (b:=y+1+1+1) (.inl (by simp)) 3 (.int .i64 en.v)).set_ (b:=y+1+1+1) (.inl (by simp)) 4 (.int .i64 en.m))).drew);have HB6r:=hide (((Blk.set_ (Blk.set_ (Blk.set_ (Blk.set_ (Blk.set_ HW.out.x6 0 (.int .i64 en.s)) 1 (.int .i64 en.o)) 2 (.int .i64 en.l)) 3 (.int .i64 en.v)) 4 (.int .i64 en.m))).drew);have HB7r:=hide (((((((((Kept.refl [y+1+1+1] W).set_ (b:=y+1+1+1) (.inl (by simp)) 0 (.int .i64 en.s)).set_ (b:=y+1+1+1) (.inl (by simp)) 1 (.int .i64 en.o)).set_ (b:=y+1+1+1) (.inl (by simp)) 2 (.int .i64 en.l)).set_ (b:=y+1+1+1) (.inl (by simp)) 3 (.int .i64 en.v)).set_ (b:=y+1+1+1) (.inl (by simp)) 4 (.int .i64 en.m))).blk HW.out.x7 (by simp)).drew);go_wp2;refine wp_region_noPanic ?_;refine wp_region_held_drew (S:=fun W=>W.cell? ⟨y+1,0,none⟩=some (.int .i64 en.s)∧W.cell? ⟨y+1,1,none⟩=some (.int .i64 en.o)∧W.cell? ⟨y+1,2,none⟩=some (.int .i64 en.l)∧W.cell? ⟨y+1,3,none⟩=some (.int .i64 en.v)∧W.cell? ⟨y+1,4,none⟩=some (.int .i64 en.m)∧W.cell? ⟨b9,0,none⟩=some (.bool true)) (by kernel_rfl) (by exact HALL3.out _ ((Kept.refl [y+1+1+1,y+1+1+1+1] _).drew)) (fun hHeld=> ?_)
    refine tK 0 72 rfl ?_;refine tK 1 73 rfl ?_;refine hO 2 none rfl fun K hK=> ?_;go_simp;generalize (((((W.setCell ⟨y+1+1+1,0,none⟩ (.int .i64 en.s)).setCell ⟨y+1+1+1,1,none⟩ (.int .i64 en.o)).setCell ⟨y+1+1+1,2,none⟩ (.int .i64 en.l)).setCell ⟨y+1+1+1,3,none⟩ (.int .i64 en.v)).setCell ⟨y+1+1+1,4,none⟩ (.int .i64 en.m)).drew=wr at HKr HB6r HB7r ⊢;have q7:=HB7r.out.cell 0;have f70:=HB7r.out.frozen 0;refine hK.out _ _ (by exact HALL3.out _ (HKr.out.mono (by simp))) (fun hHeld=>tS ?_);clear hK K;refine hO 3 none rfl fun K hK=> ?_;go_simp;have HB7f:=hide (Blk.set_ HB7r.out 0 (.bool true));have HKf:=hide ((HKr.out.mono (S':=[y+1+1+1,y+1+1+1+1]) (by simp)).trans ((Kept.refl [y+1+1+1+1] wr).set_ (b:=y+1+1+1+1) (.inl (by simp)) 0 (.bool true)) (by simp));have HB6f:=hide (((Kept.refl [y+1+1+1+1] wr).set_ (b:=y+1+1+1+1) (.inl (by simp)) 0 (.bool true)).blk HB6r.out (by simp));generalize wr.setCell ⟨y+1+1+1+1,0,none⟩ (.bool true)=wf at HB7f HKf HB6f ⊢;refine hK.out _ _ (by exact HALL3.out _ HKf.out) (fun hHeld=>tS ?_);clear hK K;refine wpAnyH_done (by kernel_rfl) ?_ _;refine NoPanic.normal ?_;clear p0 p1 p2 p3 p4 r0 r1 r2 r3 r4 q9 q7 f6 f70 hHeld;have HDf:Hid (wf.heap[D2]? = some (.deferred (some []))):=hide ((HKf.out.block _ (Array.getElem?_eq_some_iff.1 HDT.out).1 (by have h1:=HDW.out;simp;omega)).trans HDT.out);have HPf:=hide (kept_put wf D2 (.deferred none));obtain⟨v0,v1,v2,v3,v4⟩:=cell5 (HPf.out.blk HB6f.out (by have h1:=HDW.out;simp;omega));have v7:=(HPf.out.blk HB7f.out (by have h1:=HDW.out;simp;omega)).cell 0
    have HNf:=hide (HP.out _ _ _ _ _ _ (.deferred none) (HN.out _ _ _ _ _ _ HNW.out HKf.out (fun i hi=>List.mem_append_right _ (by simp [Sb.turned]at hi ⊢;omega))) HDf.out rfl (fun hm=>HDC.out (by rw[HW.out.cs];exact List.mem_append_right _ hm)));have HCf:=hide ((HW.out.cc.kept HKf.out (by simp;omega)).kept HPf.out (by have h1:=HDW.out;simp;omega));have HKF:=hide ((HW.out.kept.trans HKf.out (fun i hi=> .inr (by simp at hi;omega))).trans HPf.out (fun i hi=> .inr (by have h1:=HDW.out;simp at hi;omega)));go_wp2;refine⟨by simp,.inl ⟨_,_,rfl,run_takeDeferred HDf.out,?_⟩⟩;refine⟨.tuple #[.agg #[.int .i64 en.s,.int .i64 en.o,.int .i64 en.l,.int .i64 en.v,.int .i64 en.m],.bool true],by simp [results,Tryz.results152,go_sem,v0,v1,v2,v3,v4,v7],C,en,true,?_,?_,HKF.out,.inl ⟨rfl,HST.out,HG.out _ _ _ _ _ HNf.out (fun i hi=>by simp [Sb.turned]at hi ⊢;rcases hi with hi|hi<;>simp [hi]),?_⟩⟩
    ·rw[hz];exact HW.out.sub
    ·exact fun i hi=>HW.out.ap i (.inr hi)
    ·exact HCf.out
   | false=>
    have HKD:=hide ((Kept.refl [] W).drew);have HALL4:=hide (show ∀ W',Kept [c] W W'→(fun W=>W.cell? ⟨y,0,none⟩=some (.pointer (some ⟨c,0,none⟩))∧W.cell? ⟨b8,0,none⟩=some (.pointer (some ⟨x,0,none⟩))) W' from fun W' kw=>⟨kw.cell q3 (by simp;omega),kw.cell q8 (by have h1:=HBN.out;have h2:=HW0.out;simp;omega)⟩);go_wp2;refine wp_region_noPanic ?_;refine wp_region_held_drew (S:=fun W=>W.cell? ⟨y,0,none⟩=some (.pointer (some ⟨c,0,none⟩))∧W.cell? ⟨b8,0,none⟩=some (.pointer (some ⟨x,0,none⟩))) (by kernel_rfl) (by exact HALL4.out _ ((Kept.refl [c] _).drew)) (fun hHeld=> ?_);refine tK 0 62 rfl ?_;refine tK 1 63 rfl ?_;refine tK 2 64 rfl ?_;refine tK 4 66 rfl ?_;refine hO 3 (some 65) rfl fun K hK=> ?_;go_simp;refine(end_any x dv a z p false E err _ (HSCW.out.kept HKD.out (by simp))).mono ?_;rintro e W3 ⟨rfl,hk3⟩;have HK3:=hide (HKD.out.trans hk3 (by simp));unfold Ps.val;refine hK.out _ _ (by exact HALL4.out _ (HK3.out.mono (by simp))) (fun hHeld=>tS ?_);clear hK K;refine hO 5 (some 67) rfl fun K hK=> ?_;go_simp;refine(err_any x dv a z p false E err _ (HSCW.out.kept HK3.out (by simp))).mono ?_;rintro e W4 ⟨rfl,hk4⟩;have HK4:=hide (show Kept [] W W4 from by rw[←hk4];exact HK3.out);clear hk4;obtain⟨e7,e8,e9,e10,e11,_⟩:=(HW.out.cc.kept HK4.out (by simp)).end_;have f7:=(HW.out.cc.kept HK4.out (by simp)).frozen;have HC4:=hide (HW.out.cc.kept HK4.out (by simp));refine hK.out _ _ (by exact HALL4.out _ (HK4.out.mono (by simp))) (fun hHeld=>tS ?_);clear hK K;refine tK 6 68 rfl ?_;refine tK 7 69 rfl ?_
    refine hO 8 none rfl fun K hK=> ?_;go_simp;have HC5:=hide (CcAt.setEnd HC4.out E);have HK5:=hide ((HK4.out.mono (S':=[c]) (by simp)).trans (((((((Kept.refl [c] W4).set_ (b:=c) (.inl (by simp)) 7 (.int .i64 E.s)).set_ (b:=c) (.inl (by simp)) 8 (.int .i64 E.o)).set_ (b:=c) (.inl (by simp)) 9 (.int .i64 E.l)).set_ (b:=c) (.inl (by simp)) 10 (.int .i64 E.v)).set_ (b:=c) (.inl (by simp)) 11 (.int .i64 E.m))) (by simp));generalize (((((W4.setCell ⟨c,7,none⟩ (.int .i64 E.s)).setCell ⟨c,8,none⟩ (.int .i64 E.o)).setCell ⟨c,9,none⟩ (.int .i64 E.l)).setCell ⟨c,10,none⟩ (.int .i64 E.v)).setCell ⟨c,11,none⟩ (.int .i64 E.m))=Wm at HC5 HK5 ⊢;have e12:=HC5.out.end_.2.2.2.2.2;have f12:=HC5.out.frozen 12;refine hK.out _ _ (by exact HALL4.out _ HK5.out) (fun hHeld=>tS ?_);clear hK K;refine tK 9 70 rfl ?_;refine tK 10 71 rfl ?_;refine hO 11 none rfl fun K hK=> ?_;go_simp;have HC6:=hide (HC5.out.setErr err);have HK6:=hide (HK5.out.set_ (b:=c) (.inl (by simp)) 12 (.int .i64 err));generalize Wm.setCell ⟨c,12,none⟩ (.int .i64 err)=W5 at HC6 HK6 ⊢;refine hK.out _ _ (by exact HALL4.out _ HK6.out) (fun hHeld=>tS ?_);clear hK K;refine wpAnyH_done (by kernel_rfl) ?_ _;refine NoPanic.normal ?_;have HWe:=hide (HW.out.ends HO.out HK6.out HC6.out);have HNW5:=hide (HN.out _ _ _ _ _ _ HNW.out HK6.out (fun i hi=>List.mem_append_right _ (by simp [Sb.turned]at hi ⊢;omega)));have HDT5:Hid (W5.heap[D2]? = some (.deferred (some []))):=hide ((HK6.out.block _ (Array.getElem?_eq_some_iff.1 HDT.out).1 (by have h1:=HDW.out;simp;omega)).trans HDT.out)
    clear p0 p1 p2 p3 p4 r0 r1 r2 r3 r4 q9 q7 f6 f70 hHeld e7 e8 e9 e10 e11 e12 f7 f12 q3 q8;obtain⟨p0,p1,p2,p3,p4⟩:=cell5 HWe.out.x4;obtain⟨r0,r1,r2,r3,r4⟩:=cell5 HWe.out.x6;have q9:=HWe.out.x9.cell 0;have q7:=HWe.out.x7.cell 0;have f6:=HWe.out.x6.frozen;have f70:=HWe.out.x7.frozen 0;have HALL3:=hide (show ∀ W',Kept [y+1+1+1,y+1+1+1+1] W5 W'→(fun W=>W.cell? ⟨y+1,0,none⟩=some (.int .i64 at_.s)∧W.cell? ⟨y+1,1,none⟩=some (.int .i64 at_.o)∧W.cell? ⟨y+1,2,none⟩=some (.int .i64 at_.l)∧W.cell? ⟨y+1,3,none⟩=some (.int .i64 at_.v)∧W.cell? ⟨y+1,4,none⟩=some (.int .i64 at_.m)∧W.cell? ⟨b9,0,none⟩=some (.bool false)) W' from fun W' kw=>⟨kw.cell p0 (by simp),kw.cell p1 (by simp),kw.cell p2 (by simp),kw.cell p3 (by simp),kw.cell p4 (by simp),kw.cell q9 (by simp;omega)⟩);have HKr:=hide ((((((((Kept.refl [y+1+1+1] W5).set_ (b:=y+1+1+1) (.inl (by simp)) 0 (.int .i64 at_.s)).set_ (b:=y+1+1+1) (.inl (by simp)) 1 (.int .i64 at_.o)).set_ (b:=y+1+1+1) (.inl (by simp)) 2 (.int .i64 at_.l)).set_ (b:=y+1+1+1) (.inl (by simp)) 3 (.int .i64 at_.v)).set_ (b:=y+1+1+1) (.inl (by simp)) 4 (.int .i64 at_.m))).drew);have HB6r:=hide (((Blk.set_ (Blk.set_ (Blk.set_ (Blk.set_ (Blk.set_ HWe.out.x6 0 (.int .i64 at_.s)) 1 (.int .i64 at_.o)) 2 (.int .i64 at_.l)) 3 (.int .i64 at_.v)) 4 (.int .i64 at_.m))).drew);have HB7r:=hide (((((((((Kept.refl [y+1+1+1] W5).set_ (b:=y+1+1+1) (.inl (by simp)) 0 (.int .i64 at_.s)).set_ (b:=y+1+1+1) (.inl (by simp)) 1 (.int .i64 at_.o)).set_ (b:=y+1+1+1) (.inl (by simp)) 2 (.int .i64 at_.l)).set_ (b:=y+1+1+1) (.inl (by simp)) 3 (.int .i64 at_.v)).set_ (b:=y+1+1+1) (.inl (by simp)) 4 (.int .i64 at_.m))).blk HWe.out.x7 (by simp)).drew)
    go_wp2;refine wp_region_noPanic ?_;refine wp_region_held_drew (S:=fun W=>W.cell? ⟨y+1,0,none⟩=some (.int .i64 at_.s)∧W.cell? ⟨y+1,1,none⟩=some (.int .i64 at_.o)∧W.cell? ⟨y+1,2,none⟩=some (.int .i64 at_.l)∧W.cell? ⟨y+1,3,none⟩=some (.int .i64 at_.v)∧W.cell? ⟨y+1,4,none⟩=some (.int .i64 at_.m)∧W.cell? ⟨b9,0,none⟩=some (.bool false)) (by kernel_rfl) (by exact HALL3.out _ ((Kept.refl [y+1+1+1,y+1+1+1+1] _).drew)) (fun hHeld=> ?_);refine tK 0 72 rfl ?_;refine tK 1 73 rfl ?_;refine hO 2 none rfl fun K hK=> ?_;go_simp;generalize (((((W5.setCell ⟨y+1+1+1,0,none⟩ (.int .i64 at_.s)).setCell ⟨y+1+1+1,1,none⟩ (.int .i64 at_.o)).setCell ⟨y+1+1+1,2,none⟩ (.int .i64 at_.l)).setCell ⟨y+1+1+1,3,none⟩ (.int .i64 at_.v)).setCell ⟨y+1+1+1,4,none⟩ (.int .i64 at_.m)).drew=wr at HKr HB6r HB7r ⊢;have q7:=HB7r.out.cell 0;have f70:=HB7r.out.frozen 0;refine hK.out _ _ (by exact HALL3.out _ (HKr.out.mono (by simp))) (fun hHeld=>tS ?_);clear hK K;refine hO 3 none rfl fun K hK=> ?_;go_simp;have HB7f:=hide (Blk.set_ HB7r.out 0 (.bool false));have HKf:=hide ((HKr.out.mono (S':=[y+1+1+1,y+1+1+1+1]) (by simp)).trans ((Kept.refl [y+1+1+1+1] wr).set_ (b:=y+1+1+1+1) (.inl (by simp)) 0 (.bool false)) (by simp));have HB6f:=hide (((Kept.refl [y+1+1+1+1] wr).set_ (b:=y+1+1+1+1) (.inl (by simp)) 0 (.bool false)).blk HB6r.out (by simp));generalize wr.setCell ⟨y+1+1+1+1,0,none⟩ (.bool false)=wf at HB7f HKf HB6f ⊢;refine hK.out _ _ (by exact HALL3.out _ HKf.out) (fun hHeld=>tS ?_);clear hK K;refine wpAnyH_done (by kernel_rfl) ?_ _
    refine NoPanic.normal ?_;clear p0 p1 p2 p3 p4 r0 r1 r2 r3 r4 q9 q7 f6 f70 hHeld;have HDf:Hid (wf.heap[D2]? = some (.deferred (some []))):=hide ((HKf.out.block _ (Array.getElem?_eq_some_iff.1 HDT5.out).1 (by have h1:=HDW.out;simp;omega)).trans HDT5.out);have HPf:=hide (kept_put wf D2 (.deferred none));obtain⟨v0,v1,v2,v3,v4⟩:=cell5 (HPf.out.blk HB6f.out (by have h1:=HDW.out;simp;omega));have v7:=(HPf.out.blk HB7f.out (by have h1:=HDW.out;simp;omega)).cell 0;have HNf:=hide (HP.out _ _ _ _ _ _ (.deferred none) (HN.out _ _ _ _ _ _ HNW5.out HKf.out (fun i hi=>List.mem_append_right _ (by simp [Sb.turned]at hi ⊢;omega))) HDf.out rfl (fun hm=>HDC.out (by rw[HW.out.cs];exact List.mem_append_right _ hm)));have HCf:=hide ((HWe.out.cc.kept HKf.out (by simp;omega)).kept HPf.out (by have h1:=HDW.out;simp;omega));have HKF:=hide ((HWe.out.kept.trans HKf.out (fun i hi=> .inr (by simp at hi;omega))).trans HPf.out (fun i hi=> .inr (by have h1:=HDW.out;simp at hi;omega)));go_wp2;refine⟨by simp,.inl ⟨_,_,rfl,run_takeDeferred HDf.out,?_⟩⟩;refine⟨.tuple #[.agg #[.int .i64 at_.s,.int .i64 at_.o,.int .i64 at_.l,.int .i64 at_.v,.int .i64 at_.m],.bool false],by simp [results,Tryz.results152,go_sem,v0,v1,v2,v3,v4,v7],C,at_,false,?_,?_,HKF.out,.inl ⟨rfl,HST.out,HG.out _ _ _ _ _ HNf.out (fun i hi=>by simp [Sb.turned]at hi ⊢;rcases hi with hi|hi<;>simp [hi]),?_⟩⟩
    ·rw[hz];exact HW.out.sub
    ·exact fun i hi=>HW.out.ap i (.inr hi)
    ·exact HCf.out
  case hstop=>
   rintro D2 Cs code pre W hD2 ⟨I,rfl,C,at_,on,en,er,hw,⟨hst,hen⟩,⟨hne,hle⟩,hn⟩ hg hDC hK;obtain⟨rfl,rfl⟩:=hen hne
   have hyy:c<y∧y+1+1+1+1<wA.heap.size:=by
    have h1:=HOL.out;have h2:=HZ.out;have h3:=HB7w.out.lt;have h5:=HKS.out.size
    omega
   have HPf:=hide (kept_put W D2 (.deferred none));obtain⟨v0,v1,v2,v3,v4⟩:=cell5 (HPf.out.blk hw.x6 (by simp;omega));have v7:=(HPf.out.blk hw.x7 (by simp;omega)).cell 0;have HNf:=hide (HPX.out _ _ _ _ _ _ (.deferred none) hn hK rfl (fun hm=>hDC (by rw[hw.cs];exact List.mem_append_right _ hm)));have HCf:=hide (hw.cc.kept HPf.out (by simp;omega));have HKF:=hide (hw.kept.trans HPf.out (fun i hi=> .inr (by simp at hi;omega)));have HW:=hide hw;have HST:=hide hst;have HDf:=hide hK;have HNE:=sealed hne;have HLE:=hide hle;clear hw hst hen hn hg hDC hK hne
   gi_wp2
   refine⟨by simp,.inl ⟨_,_,rfl,run_takeDeferred HDf.out,?_⟩⟩;refine⟨.tuple #[.agg #[.int .i64 0,.int .i64 0,.int .i64 0,.int .i64 0,.int .i64 0],.bool false],by simp [results,Tryz.results152,go_sem,v0,v1,v2,v3,v4,v7],C,en,on,?_,?_,HKF.out,.inr ⟨rfl,pre,HLE.out,HNE.out,HST.out,HGX.out _ _ _ _ _ HNf.out (fun i hi=>by simp [Sb.turned]at hi ⊢;rcases hi with hi|hi<;>simp [hi]),HCf.out⟩⟩
   ·exact HW.out.sub
   ·exact fun i hi=>HW.out.ap i (.inr hi)
end Go.Proofs.YtjkmahmoclobmaaGreat.sc
