import Derived.Test.YtjkmahmoclobmaaGreatYScanSame
import Derived.Test.YtjkmahmoclobmaaGreatYChainNone
import Derived.Test.YtjkmahmoclobmaaGreatYScanLawCore
import Derived.Test.YtjkmahmoclobmaaGreatYAlike
import Derived.Deep.RegionHeld3
import Derived.Test.YtjkmahmoclobmaaGreatYChainFew
import Derived.Deep.CutRange
import Derived.Deep.CutBlock
import Derived.Test.YtjkmahmoclobmaaGreatYChainLaid
import Derived.Test.YtjkmahmoclobmaaGreatYRDiskCore
namespace Go.Proofs.YtjkmahmoclobmaaGreat.sc
set_option linter.unusedSimpArgs false
set_option linter.unusedVariables false
open Go.RowKit mem base disk owns
open record (Rc RcIn RcAt put5 put5_kept cell5)
open item (It Items)
theorem FncIn.fndX {w:World}{S:List Nat}:∀ {l:List (Ps×Rc)} {xs:List Value},FncIn w S l xs→FndX w S l xs
 | [],_,h=>h
 | (_,_)::_,_,⟨L,m,c,P,k,d,rest,h1,h2,h3⟩=>⟨L,m,c,P,k,d,rest,h1,h2,h3.fndX⟩
theorem FndX.ten {w:World}{S:List Nat}:∀ {l:List (Ps×Rc)} {xs:List Value} {j:Nat} {pk:Ps} {R:Rc},FndX w S l xs→l[j]? = some (pk,R)→∃ L m c P k d,RcIn w S L m P k R∧xs[j*10]? = some (.int .i64 pk.s)∧xs[j*10+1]? = some (.int .i64 pk.o)∧xs[j*10+2]? = some (.int .i64 pk.l)∧xs[j*10+3]? = some (.int .i64 pk.v)∧xs[j*10+4]? = some (.int .i64 pk.m)∧xs[j*10+5]? = some (.int .i64 R.m)∧xs[j*10+6]? = some (.int .i64 R.l)∧xs[j*10+7]? = some (.int .i64 R.p)∧xs[j*10+8]? = some (.slice L m c)∧xs[j*10+9]? = some (.slice P k d)
 | [],_,j,_,_,_,hj=>by simp at hj
 | (pk',R')::l,_,0,pk,R,⟨L,m,c,P,k,d,rest,h1,h2,h3⟩,hj=>by
  simp at hj;obtain⟨rfl,rfl⟩:=hj;subst h1;exact⟨L,m,c,P,k,d,h2,rfl,rfl,rfl,rfl,rfl,rfl,rfl,rfl,rfl,rfl⟩
 | (pk',R')::l,_,j+1,pk,R,⟨L,m,c,P,k,d,rest,h1,h2,h3⟩,hj=>by
  subst h1;obtain⟨L',m',c',P',k',d',i0,i⟩:=FndX.ten h3 (by simpa using hj)
  have e:(j+1)*10=j*10+10:=by omega
  rw[e];exact⟨L',m',c',P',k',d',i0,i⟩
set_option maxRecDepth 100000 in
set_option maxHeartbeats 4000000 in
theorem csame_any (L:List (Ps×Rc))(A1 A2:Option Addr)(n cc1 cc2:Nat)(xs ys:List Value)(w:World)(hn:L.length=n)(hb:n≤1000)(v1:Vals w [] A1 xs)(f1:FndX w [] L xs)(v2:Vals w [] A2 ys)(f2:FndX w [] L ys)(ho:∀ x∈L,x.2.its.length≤6∧x.2.bks.length≤6):
  Calls Tryz.prog 36 #[.slice A1 n cc1,.slice A2 n cc2] w fun e w'=>e= .returned (.bool true)∧Kept [] w w':=by
 have HN:=hide hn;have V1:=hide v1;have V2:=hide v2;have F1:=hide f1;have F2:=hide f2;have HO:=hide ho;clear hn v1 f1 v2 f2 ho;go_enter Tryz.func36,Tryz.ntmps36;go_wp2
 go_loopw [5] (fun i wr=>∃ j:Nat,j≤n∧i= .int .i64 j∧Hid (Kept [] w wr)) (fun i wr=>n-(intOf i).toNat)
 case atStart=>exact⟨0,Nat.zero_le _,rfl,hide (Kept.refl _ _)⟩
 case round=>
  obtain⟨j,hj,rfl,HK⟩:=hrel
  by_cases hlt:j<n
  ·obtain⟨⟨pk,R⟩,hx⟩:∃ x,L[j]? = some x:=⟨_,List.getElem?_eq_getElem (by rw[HN.out];exact hlt)⟩;obtain⟨L1,m1,c1,P1,k1,d1,hr1,i0,i1,i2,i3,i4,i5,i6,i7,i8,i9⟩:=F1.out.ten hx;obtain⟨L2,m2,c2,P2,k2,d2,hr2,j0,j1,j2,j3,j4,j5,j6,j7,j8,j9⟩:=F2.out.ten hx;obtain⟨ad1,rfl,g0⟩:=vals_at V1.out i0;obtain⟨ad2,rfl,h0⟩:=vals_at V2.out j0;have K1:Hid (∀ (i:Nat) (v:Value),xs[i]? = some v→w.cell? (ad1.add i)=some v):=hide (fun i v hi=>by obtain⟨ad,e,g⟩:=vals_at V1.out hi;cases e;exact g);have K2:Hid (∀ (i:Nat) (v:Value),ys[i]? = some v→w.cell? (ad2.add i)=some v):=hide (fun i v hi=>by obtain⟨ad,e,g⟩:=vals_at V2.out hi;cases e;exact g);obtain⟨wd,hwd⟩:∃ wd,wr.drew=wd:=⟨_,rfl⟩
   have kd:Kept [] w wd:=by rw[←hwd];exact HK.out.trans ((Kept.refl [] wr).drew) (by simp)
   have HCW:=hide (show ∀ W,Kept [] w W→True∧W.cell? (ad1.add (j*10))=some (.int .i64 pk.s)∧W.cell? ⟨(ad1.add (j*10)).block,(ad1.add (j*10)).off+1,none⟩=some (.int .i64 pk.o)∧W.cell? ⟨(ad1.add (j*10)).block,(ad1.add (j*10)).off+2,none⟩=some (.int .i64 pk.l)∧W.cell? ⟨(ad1.add (j*10)).block,(ad1.add (j*10)).off+3,none⟩=some (.int .i64 pk.v)∧W.cell? ⟨(ad1.add (j*10)).block,(ad1.add (j*10)).off+4,none⟩=some (.int .i64 pk.m)∧W.cell? ⟨(ad1.add (j*10)).block,(ad1.add (j*10)).off+5,none⟩=some (.int .i64 R.m)∧W.cell? ⟨(ad1.add (j*10)).block,(ad1.add (j*10)).off+6,none⟩=some (.int .i64 R.l)∧W.cell? ⟨(ad1.add (j*10)).block,(ad1.add (j*10)).off+7,none⟩=some (.int .i64 R.p)∧W.cell? ⟨(ad1.add (j*10)).block,(ad1.add (j*10)).off+8,none⟩=some (.slice L1 m1 c1)∧W.cell? ⟨(ad1.add (j*10)).block,(ad1.add (j*10)).off+9,none⟩=some (.slice P1 k1 d1)∧W.cell? (ad2.add (j*10))=some (.int .i64 pk.s)∧W.cell? ⟨(ad2.add (j*10)).block,(ad2.add (j*10)).off+1,none⟩=some (.int .i64 pk.o)∧W.cell? ⟨(ad2.add (j*10)).block,(ad2.add (j*10)).off+2,none⟩=some (.int .i64 pk.l)∧W.cell? ⟨(ad2.add (j*10)).block,(ad2.add (j*10)).off+3,none⟩=some (.int .i64 pk.v)∧W.cell? ⟨(ad2.add (j*10)).block,(ad2.add (j*10)).off+4,none⟩=some (.int .i64 pk.m)∧W.cell? ⟨(ad2.add (j*10)).block,(ad2.add (j*10)).off+5,none⟩=some (.int .i64 R.m)∧W.cell? ⟨(ad2.add (j*10)).block,(ad2.add (j*10)).off+6,none⟩=some (.int .i64 R.l)∧W.cell? ⟨(ad2.add (j*10)).block,(ad2.add (j*10)).off+7,none⟩=some (.int .i64 R.p)∧W.cell? ⟨(ad2.add (j*10)).block,(ad2.add (j*10)).off+8,none⟩=some (.slice L2 m2 c2)∧W.cell? ⟨(ad2.add (j*10)).block,(ad2.add (j*10)).off+9,none⟩=some (.slice P2 k2 d2)from fun W k=>⟨trivial,k.cell g0 (by simp),add_cell (k.cell (K1.out _ _ i1) (by simp)),add_cell (k.cell (K1.out _ _ i2) (by simp)),add_cell (k.cell (K1.out _ _ i3) (by simp)),add_cell (k.cell (K1.out _ _ i4) (by simp)),add_cell (k.cell (K1.out _ _ i5) (by simp)),add_cell (k.cell (K1.out _ _ i6) (by simp)),add_cell (k.cell (K1.out _ _ i7) (by simp)),add_cell (k.cell (K1.out _ _ i8) (by simp)),add_cell (k.cell (K1.out _ _ i9) (by simp)),k.cell h0 (by simp),add_cell (k.cell (K2.out _ _ j1) (by simp)),add_cell (k.cell (K2.out _ _ j2) (by simp)),add_cell (k.cell (K2.out _ _ j3) (by simp)),add_cell (k.cell (K2.out _ _ j4) (by simp)),add_cell (k.cell (K2.out _ _ j5) (by simp)),add_cell (k.cell (K2.out _ _ j6) (by simp)),add_cell (k.cell (K2.out _ _ j7) (by simp)),add_cell (k.cell (K2.out _ _ j8) (by simp)),add_cell (k.cell (K2.out _ _ j9) (by simp))⟩)
   have HR:=hide (fun W (k:Kept [] w W)=>record.record_any R R L1 P1 L2 P2 m1 c1 k1 d1 m2 c2 k2 d2 W (hr1.at_.kept k) (hr2.at_.kept k) (by have h1:=(HO.out _ (List.mem_of_getElem? hx)).1;have h2:=hr1.hn;simp at h1;omega) (by have h1:=(HO.out _ (List.mem_of_getElem? hx)).2;have h2:=hr1.hk;simp at h1;omega));have HKD:=hide kd;have HWD:=hide hwd;have hnp:=fun W=>neq_pos pk pk W;clear hx hr1 hr2 i0 i1 i2 i3 i4 i5 i6 i7 i8 i9 j0 j1 j2 j3 j4 j5 j6 j7 j8 j9 g0 h0 K1 K2 kd hwd;go_wp2;refine wp_region_noPanic ?_;refine wp_region_held_drew (S:=fun W=>Kept [] w W∧True∧W.cell? (ad1.add (j*10))=some (.int .i64 pk.s)∧W.cell? ⟨(ad1.add (j*10)).block,(ad1.add (j*10)).off+1,none⟩=some (.int .i64 pk.o)∧W.cell? ⟨(ad1.add (j*10)).block,(ad1.add (j*10)).off+2,none⟩=some (.int .i64 pk.l)∧W.cell? ⟨(ad1.add (j*10)).block,(ad1.add (j*10)).off+3,none⟩=some (.int .i64 pk.v)∧W.cell? ⟨(ad1.add (j*10)).block,(ad1.add (j*10)).off+4,none⟩=some (.int .i64 pk.m)∧W.cell? ⟨(ad1.add (j*10)).block,(ad1.add (j*10)).off+5,none⟩=some (.int .i64 R.m)∧W.cell? ⟨(ad1.add (j*10)).block,(ad1.add (j*10)).off+6,none⟩=some (.int .i64 R.l)∧W.cell? ⟨(ad1.add (j*10)).block,(ad1.add (j*10)).off+7,none⟩=some (.int .i64 R.p)∧W.cell? ⟨(ad1.add (j*10)).block,(ad1.add (j*10)).off+8,none⟩=some (.slice L1 m1 c1)∧W.cell? ⟨(ad1.add (j*10)).block,(ad1.add (j*10)).off+9,none⟩=some (.slice P1 k1 d1)∧W.cell? (ad2.add (j*10))=some (.int .i64 pk.s)∧W.cell? ⟨(ad2.add (j*10)).block,(ad2.add (j*10)).off+1,none⟩=some (.int .i64 pk.o)∧W.cell? ⟨(ad2.add (j*10)).block,(ad2.add (j*10)).off+2,none⟩=some (.int .i64 pk.l)∧W.cell? ⟨(ad2.add (j*10)).block,(ad2.add (j*10)).off+3,none⟩=some (.int .i64 pk.v)∧W.cell? ⟨(ad2.add (j*10)).block,(ad2.add (j*10)).off+4,none⟩=some (.int .i64 pk.m)∧W.cell? ⟨(ad2.add (j*10)).block,(ad2.add (j*10)).off+5,none⟩=some (.int .i64 R.m)∧W.cell? ⟨(ad2.add (j*10)).block,(ad2.add (j*10)).off+6,none⟩=some (.int .i64 R.l)∧W.cell? ⟨(ad2.add (j*10)).block,(ad2.add (j*10)).off+7,none⟩=some (.int .i64 R.p)∧W.cell? ⟨(ad2.add (j*10)).block,(ad2.add (j*10)).off+8,none⟩=some (.slice L2 m2 c2)∧W.cell? ⟨(ad2.add (j*10)).block,(ad2.add (j*10)).off+9,none⟩=some (.slice P2 k2 d2)) (by kernel_rfl) (by exact⟨by rw[HWD.out];exact HKD.out,HCW.out _ (by rw[HWD.out];exact HKD.out)⟩) (fun hHeld=> ?_)
   refine tK 0 17 rfl ?_;refine tK 1 18 rfl ?_;refine tK 2 19 rfl ?_;refine tK 3 20 rfl ?_;refine tK 4 21 rfl ?_;refine tK 5 22 rfl ?_;refine tK 6 23 rfl ?_;refine tK 7 24 rfl ?_;refine tK 8 25 rfl ?_;refine tK 9 26 rfl ?_;refine tK 10 27 rfl ?_;refine tK 11 28 rfl ?_;refine tK 12 29 rfl ?_;refine tK 13 30 rfl ?_;refine tK 14 31 rfl ?_;refine tK 15 32 rfl ?_;refine tK 16 33 rfl ?_;refine tK 17 34 rfl ?_;refine tK 18 35 rfl ?_;refine tK 19 36 rfl ?_;refine tK 20 37 rfl ?_;refine tK 21 38 rfl ?_;refine hO 22 (some 39) rfl fun K hK=> ?_;go_simp;refine(HR.out _ hHeld.1).mono ?_;rintro e' w2 ⟨rfl,hk2⟩;have HK2:=hide (hHeld.1.trans hk2 (by simp))
   (try rw[show decide (R=R)=true from decide_eq_true rfl])
   (try rw[show decide True=true from rfl])
   refine hK.out _ _ (by exact⟨HK2.out,HCW.out _ HK2.out⟩) (fun hHeld=>tS ?_);clear hK K;refine tK 23 40 rfl ?_;refine tK 24 41 rfl ?_;refine wpAnyH_done (by kernel_rfl) ?_ _;refine NoPanic.normal ?_;go_wp2;go_roundw
   case rel=>exact⟨j+1,by omega,by go_num,HK2⟩
   case measure=>simp [intOf];omega
  ·obtain rfl:j=n:=by omega
   go_wp2;go_ret;exact⟨rfl,HK.out⟩
end Go.Proofs.YtjkmahmoclobmaaGreat.sc
namespace Go.Proofs.YtjkmahmoclobmaaGreat.base
open Go.RowKit mem
set_option maxRecDepth 100000 in
set_option maxHeartbeats 1000000 in
theorem config_small (x y z:Int)(w:World):
  Calls Tryz.prog 10 #[.agg #[.int .i64 x,.int .i64 y,.int .i64 z],.bool true] w fun e w'=>∃ b s l,e= .returned (.agg #[.int .i64 b,.int .i64 s,.int .i64 l])∧((1≤b∧b≤24)∧(8≤s∧s≤10)∧24≤l∧l≤27)∧Kept [] w w':=by
 have hk:=hide (((Kept.refl [] w).alloc (.cells #[.int .i64 x,.int .i64 y,.int .i64 z] 22)));obtain⟨b,hb⟩:∃ b,x%24=b:=⟨_,rfl⟩;obtain⟨s,hs⟩:∃ s,y%3=s:=⟨_,rfl⟩;obtain⟨l,hl⟩:∃ l,z%4=l:=⟨_,rfl⟩
 have hb1:0≤b∧b≤23:=by omega
 have hs1:0≤s∧s≤2:=by omega
 have hl1:0≤l∧l≤3:=by omega
 have HB:=hide hb;have HS:=hide hs;have HL:=hide hl;clear hb hs hl;have g1:IntKind.i64.wrap (1+b)=1+b:=IntWalk.i64_in _ (by omega);have g2:IntKind.i64.wrap (8+s)=8+s:=IntWalk.i64_in _ (by omega);have g3:IntKind.i64.wrap (24+l)=24+l:=IntWalk.i64_in _ (by omega);go_enter Tryz.func10,Tryz.ntmps10;go_wp2
 go_region_held3 (fun W=>W.cell? ⟨w.heap.size,0,none⟩=some (.int .i64 x)∧W.cell? ⟨w.heap.size,1,none⟩=some (.int .i64 y)∧W.cell? ⟨w.heap.size,2,none⟩=some (.int .i64 z))
  (first|(simp;done)|(simp_all;done))
  (first|(go_at_call 12;first|(refine(round_any x 24 _ (by omega) (by omega)).mono ?_;rintro e w1 ⟨rfl,rfl⟩;rw[HB.out])|(refine(round_any y 3 _ (by omega) (by omega)).mono ?_;rintro e w1 ⟨rfl,rfl⟩;rw[HS.out])|(refine(round_any z 4 _ (by omega) (by omega)).mono ?_;rintro e w1 ⟨rfl,rfl⟩;rw[HL.out])))
 go_wp2;refine bodyPost_ret (v:= .agg #[.int .i64 (1+b),.int .i64 (8+s),.int .i64 (24+l)]) (by simp [results,Tryz.results10,go_sem]) rfl ⟨1+b,8+s,24+l,rfl,by omega,?_⟩
 exact(hk.out.alloc _).drew
end Go.Proofs.YtjkmahmoclobmaaGreat.base
namespace Go.Proofs.YtjkmahmoclobmaaGreat.sc
set_option linter.unusedSimpArgs false
set_option linter.unusedVariables false
open Go.RowKit mem base disk owns
open record (Rc RcIn RcAt put5 put5_kept cell5)
theorem mul_top {s l b:Int}(hc:(1≤b∧b≤24)∧(8≤s∧s≤10)∧24≤l∧l≤27):0≤s*l∧s*l≤270:=by
 refine⟨Int.mul_nonneg (by omega) (by omega),?_⟩;have h1:s*l≤10*l:=Int.mul_le_mul_of_nonneg_right (by omega) (by omega)
 omega
structure Lp (wr w:World)(F G:List Nat)(d rd g:Nat)(D:Dk)(b s l r q:Int)(bs:List (Nat×TypeId×Array Value)):Prop where
 lw:Lw wr w F G d rd g D b s l r q
 bl:∀ x∈bs,Blk wr x.1 x.2.1 x.2.2
 ap:∀ x∈bs,x.1∉F++G∧w.heap.size≤x.1
def cfgB (g:Nat)(b s l:Int):Nat×TypeId×Array Value:=(g,29,#[.int .i64 b,.int .i64 s,.int .i64 l])
def posB (g:Nat)(p:Ps):Nat×TypeId×Array Value:=(g,24,#[.int .i64 p.s,.int .i64 p.o,.int .i64 p.l,.int .i64 p.v,.int .i64 p.m])
section
variable {wr wr' w:World}{F G:List Nat}{d rd g:Nat}{D D':Dk}{b s l r q:Int}{bs:List (Nat×TypeId×Array Value)}
theorem Lp.keep (h:Lp wr w F G d rd g D b s l r q bs)(k:Kept [] wr wr'):Lp wr' w F G d rd g D b s l r q bs:=
 ⟨h.lw.keep k,fun x hx=>k.blk (h.bl x hx) (by simp),h.ap⟩
theorem Lp.put (h:Lp wr w F G d rd g D b s l r q bs)(t:DdTo wr wr' F d G rd D'):∃ F' G',Lp wr' w F' G' d rd g D' b s l r q bs∧Kept (F++G) wr wr':=by
 obtain⟨F',G',h1,h2,h3⟩:=h.lw.put t;exact⟨F',G',⟨h1,fun x hx=>h3.blk (h.bl x hx) (h.ap x hx).1,fun x hx=>⟨h2 _ (h.ap x hx).1 (h.bl x hx).lt,(h.ap x hx).2⟩⟩,h3⟩
theorem Lp.add (h:Lp wr w F G d rd g D b s l r q bs)(k:Kept [] wr wr'){y:Nat×TypeId×Array Value}(hb:Blk wr' y.1 y.2.1 y.2.2)(hy:wr.heap.size≤y.1):Lp wr' w F G d rd g D b s l r q (y::bs):=
 ⟨h.lw.keep k,fun x hx=>(List.mem_cons.1 hx).elim (fun e=>e▸hb) (fun hx=>k.blk (h.bl x hx) (by simp)),fun x hx=>(List.mem_cons.1 hx).elim (fun e=>by
  subst e
  exact⟨fun hm=>by have:=h.lw.dd.lt _ hm;omega,Nat.le_trans h.lw.kept.size hy⟩) (fun hx=>h.ap x hx)⟩
theorem Lp.cfg (h:Lp wr w F G d rd g D b s l r q bs){y:Nat}{b' s' l':Int}(hy:cfgB y b' s' l'∈bs):wr.cell? ⟨y,0,none⟩=some (.int .i64 b')∧wr.cell? ⟨y,1,none⟩=some (.int .i64 s')∧wr.cell? ⟨y,2,none⟩=some (.int .i64 l'):=
 have hb:=h.bl _ hy
 ⟨hb.cell 0,hb.cell 1,hb.cell 2⟩
theorem Lp.pos (h:Lp wr w F G d rd g D b s l r q bs){y:Nat}{p:Ps}(hy:posB y p∈bs):wr.cell? ⟨y,0,none⟩=some (.int .i64 p.s)∧wr.cell? ⟨y,1,none⟩=some (.int .i64 p.o)∧wr.cell? ⟨y,2,none⟩=some (.int .i64 p.l)∧wr.cell? ⟨y,3,none⟩=some (.int .i64 p.v)∧wr.cell? ⟨y,4,none⟩=some (.int .i64 p.m):=
 cell5 (h.bl _ hy)
end
theorem faulted_ok (D:Dk)(x:Int)(h:D.ok):(D.faulted x true).2.ok∧(D.faulted x true).2.acts=D.acts:=by
 unfold Dk.faulted
 split
 ·exact⟨h.faulted _ _,rfl⟩
 ·exact⟨h,rfl⟩
def pcs (p:Ps):List Value:=[.int .i64 p.s,.int .i64 p.o,.int .i64 p.l,.int .i64 p.v,.int .i64 p.m]
theorem three_at {W:World}{ad:Addr}{u0 u1 u2:Ps}(h:Vals W [] (some ad) (pcs u0++(pcs u1++pcs u2)))(j:Nat)(hj:j<3):∃ x:Ps,W.cell? (ad.add (j*5))=some (.int .i64 x.s)∧W.cell? ⟨(ad.add (j*5)).block,(ad.add (j*5)).off+1,none⟩=some (.int .i64 x.o)∧W.cell? ⟨(ad.add (j*5)).block,(ad.add (j*5)).off+2,none⟩=some (.int .i64 x.l)∧W.cell? ⟨(ad.add (j*5)).block,(ad.add (j*5)).off+3,none⟩=some (.int .i64 x.v)∧W.cell? ⟨(ad.add (j*5)).block,(ad.add (j*5)).off+4,none⟩=some (.int .i64 x.m):=by
 have key:∀ (i:Nat) (v:Value),(pcs u0++(pcs u1++pcs u2))[i]? = some v→W.cell? (ad.add i)=some v:=fun i v hi=>by
  obtain⟨ad',e,g⟩:=vals_at h hi;cases e;exact g
 rcases(show j=0∨j=1∨j=2 by omega)with rfl|rfl|rfl
 ·exact⟨u0,key 0 _ rfl,add_cell (key 1 _ rfl),add_cell (key 2 _ rfl),add_cell (key 3 _ rfl),add_cell (key 4 _ rfl)⟩
 ·exact⟨u1,key 5 _ rfl,add_cell (key 6 _ rfl),add_cell (key 7 _ rfl),add_cell (key 8 _ rfl),add_cell (key 9 _ rfl)⟩
 ·exact⟨u2,key 10 _ rfl,add_cell (key 11 _ rfl),add_cell (key 12 _ rfl),add_cell (key 13 _ rfl),add_cell (key 14 _ rfl)⟩
theorem row64p {w:World}{base n c:Nat}{e:TypeId}{sz:Nat}{A:Option Addr}{xs:List Value}(h:w.ownsRow base e sz (.slice A (n+1) c) (n+1) xs):∃ g,A=some ⟨g,0,none⟩∧base≤g∧Row w g e xs:=by
 rcases h.2 with⟨h1,_⟩|⟨g,cap,cur,h1,hb,_⟩
 ·cases h1
 ·obtain⟨g2,c2,h2,h3,_,h4⟩:=disk.row_of_own h (by cases h1;simp [Value.ownBlock]);cases h2;exact⟨g2,rfl,h3,h4⟩
theorem once {A B:Prop}(h:Seal A→B)(a:A):B:=h ⟨a⟩
end Go.Proofs.YtjkmahmoclobmaaGreat.sc
