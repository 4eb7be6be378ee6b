import Derived.Test.YtjkmahmoclobmaaGreatYShapes
import Derived.StillTailTactics
import Derived.Deep.RegionHeld3
set_option maxRecDepth 100000
set_option maxHeartbeats 1000000
namespace Go.Proofs.YtjkmahmoclobmaaGreat.geom
open Go.RowKit mem base
theorem between (n a b:Int)(w:World):
  Calls Tryz.prog 176 #[.int .i64 n,.int .i64 a,.int .i64 b] w fun e w'=>e= .returned (.bool (decide (a≤n)&&decide (n≤b)))∧w=w':=by
 by_cases h:a≤n
 ·go_enter Tryz.func176,Tryz.ntmps176;go_wp2;go_ret;exact⟨by simp [h],rfl⟩
 ·go_enter Tryz.func176,Tryz.ntmps176;go_wp2;go_ret;exact⟨by rw[show decide (a≤n)=false from decide_eq_false (by omega)];rfl,rfl⟩
theorem between_yes (n a b:Int)(w:World)(h:a≤n∧n≤b):
  Calls Tryz.prog 176 #[.int .i64 n,.int .i64 a,.int .i64 b] w fun e w'=>e= .returned (.bool true)∧w=w':=
 (between n a b w).mono fun e w' ⟨he,hw⟩=>⟨by rw[he];simp [h.1,h.2],hw⟩
theorem between_no (n a b:Int)(w:World)(h:n<a∨b<n):
  Calls Tryz.prog 176 #[.int .i64 n,.int .i64 a,.int .i64 b] w fun e w'=>e= .returned (.bool false)∧w=w':=
 (between n a b w).mono fun e w' ⟨he,hw⟩=>⟨by rw[he];congr 2;rw[←Bool.not_eq_true,Bool.and_eq_true,decide_eq_true_iff,decide_eq_true_iff];omega,hw⟩

theorem upwards_ok (n d:Int)(w:World)(hn:0≤n)(hn2:n≤1000000)(hd:1≤d)(hd2:d≤1000000):
  Calls Tryz.prog 124 #[.int .i64 n,.int .i64 d] w fun e w'=>e= .returned (.int .i64 ((n+d-1)/d))∧w=w':=by
 have h0:(d==0)=false:=beq_eq_false_iff_ne.2 (by omega);have h1:Hid ((n+d-1).tdiv d=(n+d-1)/d):=hide (Int.tdiv_eq_ediv_of_nonneg (by omega))
 have h2:0≤(n+d-1).tdiv d:=by rw[h1.out];exact Int.ediv_nonneg (by omega) (by omega)
 have h3:(n+d-1).tdiv d≤n+d-1:=by rw[h1.out];exact Int.ediv_le_self _ (by omega)
 go_enter Tryz.func124,Tryz.ntmps124;go_wp2;go_ret;exact⟨congrArg (fun q=>Ending.returned (.int .i64 q)) h1.out,rfl⟩
def Ok (b s l:Int):Prop:=(1≤b∧b≤64)∧(8≤s∧s≤32)∧24≤l∧l≤64

theorem may_yes (b s l:Int)(w:World)(h:Ok b s l):
  Calls Tryz.prog 123 #[.agg #[.int .i64 b,.int .i64 s,.int .i64 l]] w fun e w'=>e= .returned (.bool true)∧Kept [] w w':=by
 obtain⟨h1,h2,h3⟩:=h;have hk:=(Kept.refl [] w).alloc (.cells #[.int .i64 b,.int .i64 s,.int .i64 l] 29);go_enter Tryz.func123,Tryz.ntmps123;go_wp2_with fail;refine(between_yes b 1 64 _ h1).mono ?_;rintro e w1 ⟨rfl,rfl⟩;go_wp2_with fail;refine(between_yes s 8 32 _ h2).mono ?_;rintro e w1 ⟨rfl,rfl⟩;go_wp2_with fail;refine(between_yes l 24 64 _ h3).mono ?_;rintro e w1 ⟨rfl,rfl⟩;go_wp2;go_ret;exact⟨rfl,hk⟩
def PV (a c z:Int):Value:= .agg #[.int .i64 a,.int .i64 c,.int .i64 z]

theorem end_ok (a c z:Int)(w:World)(h0:0≤c*z)(h1:c*z≤1000000)(ha:0≤a)(ha2:a≤1000000):
  Calls Tryz.prog 177 #[PV a c z] w fun e w'=>e= .returned (.int .i64 (a+c*z))∧Kept [] w w':=by
 have hk:=(Kept.refl [] w).alloc (.cells #[.int .i64 a,.int .i64 c,.int .i64 z] 202);unfold PV;go_enter Tryz.func177,Tryz.ntmps177;go_wp2;go_ret;exact⟨rfl,hk⟩

theorem first_no (a c z i:Int)(w:World)(hc:0≤c)(hc2:c≤1000000)(hi:i<0∨c-1<i):
  Calls Tryz.prog 155 #[PV a c z,.int .i64 i] w fun e w'=>e= .returned (.int .i64 (-1))∧Kept [] w w':=by
 have hk:=(Kept.refl [] w).alloc (.cells #[.int .i64 a,.int .i64 c,.int .i64 z] 202);unfold PV;go_enter Tryz.func155,Tryz.ntmps155;go_wp2_with fail;refine(between_no i 0 (c-1) _ hi).mono ?_;rintro e w1 ⟨rfl,rfl⟩;go_wp2;go_ret;exact⟨rfl,hk⟩
theorem first_yes (a c z i:Int)(w:World)(hc:0≤c)(hc2:c≤1000000)(hi:0≤i∧i≤c-1)(h0:0≤i*z)(h1:i*z≤1000000)(ha:0≤a)(ha2:a≤1000000):
  Calls Tryz.prog 155 #[PV a c z,.int .i64 i] w fun e w'=>e= .returned (.int .i64 (a+i*z))∧Kept [] w w':=by
 have hk:=(Kept.refl [] w).alloc (.cells #[.int .i64 a,.int .i64 c,.int .i64 z] 202);unfold PV;go_enter Tryz.func155,Tryz.ntmps155;go_wp2_with fail;refine(between_yes i 0 (c-1) _ hi).mono ?_;rintro e w1 ⟨rfl,rfl⟩;go_wp2;go_ret;exact⟨rfl,hk⟩
end Go.Proofs.YtjkmahmoclobmaaGreat.geom

namespace Go.Proofs.YtjkmahmoclobmaaGreat.geom
open Go.RowKit mem base
def cellsOf (b s l r q x0 x1 x2 x3 x4:Int):Array Value:=
 #[.int .i64 b,.int .i64 s,.int .i64 l,.int .i64 x0,.int .i64 2,.int .i64 1,.int .i64 x1,.int .i64 2,.int .i64 r,.int .i64 x2,.int .i64 (2*q),.int .i64 1,.int .i64 x3,.int .i64 (2*q),.int .i64 1,.int .i64 x4,.int .i64 s,.int .i64 l]

theorem end_eq (a c z x:Int)(w:World)(h0:0≤c*z)(h1:c*z≤1000000)(ha:0≤a)(ha2:a≤1000000)(hx:a+c*z=x):
  Calls Tryz.prog 177 #[.agg #[.int .i64 a,.int .i64 c,.int .i64 z]] w fun e w'=>e= .returned (.int .i64 x)∧Kept [] w w':=by
 subst hx;exact end_ok a c z w h0 h1 ha ha2

theorem lay_ok (p:Nat)(b s l r q:Int)(w:World)(h:Blk w p 205 (cellsOf b s l r q 0 0 0 0 0))(hr:1≤r∧r≤10)(hq:1≤q∧q≤10)(hm:0≤s*l∧s*l≤10000):
  Calls Tryz.prog 125 #[.pointer (some ⟨p,0,none⟩)] w fun e w'=>e= .returned (.tuple #[])∧Blk w' p 205 (cellsOf b s l r q 0 2 (2+2*r) (2+2*r+2*q) (2+2*r+4*q))∧Kept [p] w w':=by
 have H:=hide h;clear h;go_enter Tryz.func125,Tryz.ntmps125;go_wp2
 go_loopw [2,4] (fun a i wr=>Hid (Kept [p] w wr)∧
   ((i= .int .i64 0∧a= .int .i64 0∧Hid (Blk wr p 205 (cellsOf b s l r q 0 0 0 0 0)))∨
    (i= .int .i64 1∧a= .int .i64 2∧Hid (Blk wr p 205 (cellsOf b s l r q 0 0 0 0 0)))∨
    (i= .int .i64 2∧a= .int .i64 (2+2*r)∧Hid (Blk wr p 205 (cellsOf b s l r q 0 2 0 0 0)))∨
    (i= .int .i64 3∧a= .int .i64 (2+2*r+2*q)∧Hid (Blk wr p 205 (cellsOf b s l r q 0 2 (2+2*r) 0 0)))∨
    (i= .int .i64 4∧a= .int .i64 (2+2*r+4*q)∧Hid (Blk wr p 205 (cellsOf b s l r q 0 2 (2+2*r) (2+2*r+2*q) 0)))∨
    (i= .int .i64 5∧Hid (Blk wr p 205 (cellsOf b s l r q 0 2 (2+2*r) (2+2*r+2*q) (2+2*r+4*q)))))) (fun a i wr=>5-(intOf i).toNat)
 case atStart=>exact⟨hide (Kept.refl _ _),.inl ⟨rfl,rfl,H⟩⟩
 case round=>
  obtain⟨HK,⟨rfl,rfl,HB⟩|⟨rfl,rfl,HB⟩|⟨rfl,rfl,HB⟩|⟨rfl,rfl,HB⟩|⟨rfl,rfl,HB⟩|⟨rfl,HB⟩⟩:=hrel
  ·have f3:=HB.out.frozen 3;have c3:wr.cell? ⟨p,3,none⟩=some (.int .i64 0):=HB.out.cell 3;have c4:wr.cell? ⟨p,4,none⟩=some (.int .i64 (2)):=HB.out.cell 4;have c5:wr.cell? ⟨p,5,none⟩=some (.int .i64 (1)):=HB.out.cell 5;have hs:Hid (Blk (wr.setCell ⟨p,3,none⟩ (.int .i64 (0))) p 205 (cellsOf b s l r q 0 0 0 0 0)):=hide (HB.out.set_ 3 (.int .i64 (0)));have hk:=hide (HK.out.set_ (b:=p) (.inl (by simp)) 3 (.int .i64 (0)));go_wp2_with fail;refine(end_eq (0) (2) (1) (2) _ (by omega) (by omega) (by omega) (by omega) (by omega)).mono ?_;rintro e w1 ⟨rfl,hk1⟩;have hs1:=hide (hk1.blk hs.out (by simp));have hk2:=hide (hk.out.trans hk1 (by simp));clear hk1;go_wp2;go_roundw
   case rel=>exact⟨hk2,.inr (.inl ⟨rfl,rfl,hs1⟩)⟩
   case measure=>simp [intOf]
  ·have f3:=HB.out.frozen 6;have c3:wr.cell? ⟨p,6,none⟩=some (.int .i64 0):=HB.out.cell 6;have c4:wr.cell? ⟨p,7,none⟩=some (.int .i64 (2)):=HB.out.cell 7;have c5:wr.cell? ⟨p,8,none⟩=some (.int .i64 (r)):=HB.out.cell 8;have hs:Hid (Blk (wr.setCell ⟨p,6,none⟩ (.int .i64 (2))) p 205 (cellsOf b s l r q 0 2 0 0 0)):=hide (HB.out.set_ 6 (.int .i64 (2)));have hk:=hide (HK.out.set_ (b:=p) (.inl (by simp)) 6 (.int .i64 (2)));go_wp2_with fail;refine(end_eq (2) (2) (r) (2+2*r) _ (by omega) (by omega) (by omega) (by omega) (by omega)).mono ?_;rintro e w1 ⟨rfl,hk1⟩;have hs1:=hide (hk1.blk hs.out (by simp));have hk2:=hide (hk.out.trans hk1 (by simp));clear hk1;go_wp2;go_roundw
   case rel=>exact⟨hk2,.inr (.inr (.inl ⟨rfl,rfl,hs1⟩))⟩
   case measure=>simp [intOf]
  ·have f3:=HB.out.frozen 9;have c3:wr.cell? ⟨p,9,none⟩=some (.int .i64 0):=HB.out.cell 9;have c4:wr.cell? ⟨p,10,none⟩=some (.int .i64 (2*q)):=HB.out.cell 10;have c5:wr.cell? ⟨p,11,none⟩=some (.int .i64 (1)):=HB.out.cell 11;have hs:Hid (Blk (wr.setCell ⟨p,9,none⟩ (.int .i64 (2+2*r))) p 205 (cellsOf b s l r q 0 2 (2+2*r) 0 0)):=hide (HB.out.set_ 9 (.int .i64 (2+2*r)));have hk:=hide (HK.out.set_ (b:=p) (.inl (by simp)) 9 (.int .i64 (2+2*r)));go_wp2_with fail;refine(end_eq (2+2*r) (2*q) (1) (2+2*r+2*q) _ (by omega) (by omega) (by omega) (by omega) (by omega)).mono ?_;rintro e w1 ⟨rfl,hk1⟩;have hs1:=hide (hk1.blk hs.out (by simp));have hk2:=hide (hk.out.trans hk1 (by simp));clear hk1;go_wp2;go_roundw
   case rel=>exact⟨hk2,.inr (.inr (.inr (.inl ⟨rfl,rfl,hs1⟩)))⟩
   case measure=>simp [intOf]
  ·have f3:=HB.out.frozen 12;have c3:wr.cell? ⟨p,12,none⟩=some (.int .i64 0):=HB.out.cell 12;have c4:wr.cell? ⟨p,13,none⟩=some (.int .i64 (2*q)):=HB.out.cell 13;have c5:wr.cell? ⟨p,14,none⟩=some (.int .i64 (1)):=HB.out.cell 14;have hs:Hid (Blk (wr.setCell ⟨p,12,none⟩ (.int .i64 (2+2*r+2*q))) p 205 (cellsOf b s l r q 0 2 (2+2*r) (2+2*r+2*q) 0)):=hide (HB.out.set_ 12 (.int .i64 (2+2*r+2*q)));have hk:=hide (HK.out.set_ (b:=p) (.inl (by simp)) 12 (.int .i64 (2+2*r+2*q)));go_wp2_with fail;refine(end_eq (2+2*r+2*q) (2*q) (1) (2+2*r+4*q) _ (by omega) (by omega) (by omega) (by omega) (by omega)).mono ?_;rintro e w1 ⟨rfl,hk1⟩;have hs1:=hide (hk1.blk hs.out (by simp));have hk2:=hide (hk.out.trans hk1 (by simp));clear hk1;go_wp2;go_roundw
   case rel=>exact⟨hk2,.inr (.inr (.inr (.inr (.inl ⟨rfl,rfl,hs1⟩))))⟩
   case measure=>simp [intOf]
  ·have f3:=HB.out.frozen 15;have c3:wr.cell? ⟨p,15,none⟩=some (.int .i64 0):=HB.out.cell 15;have c4:wr.cell? ⟨p,16,none⟩=some (.int .i64 (s)):=HB.out.cell 16;have c5:wr.cell? ⟨p,17,none⟩=some (.int .i64 (l)):=HB.out.cell 17;have hs:Hid (Blk (wr.setCell ⟨p,15,none⟩ (.int .i64 (2+2*r+4*q))) p 205 (cellsOf b s l r q 0 2 (2+2*r) (2+2*r+2*q) (2+2*r+4*q))):=hide (HB.out.set_ 15 (.int .i64 (2+2*r+4*q)));have hk:=hide (HK.out.set_ (b:=p) (.inl (by simp)) 15 (.int .i64 (2+2*r+4*q)));go_wp2_with fail;refine(end_eq (2+2*r+4*q) (s) (l) (2+2*r+4*q+s*l) _ (by omega) (by omega) (by omega) (by omega) (by omega)).mono ?_;rintro e w1 ⟨rfl,hk1⟩;have hs1:=hide (hk1.blk hs.out (by simp));have hk2:=hide (hk.out.trans hk1 (by simp));clear hk1;go_wp2;go_roundw
   case rel=>exact⟨hk2,.inr (.inr (.inr (.inr (.inr (⟨rfl,hs1⟩)))))⟩
   case measure=>simp [intOf]
  ·have hb:=HB.out;have hk:=HK.out;go_wp2
   go_end0
   exact⟨rfl,HB.out,HK.out⟩
structure GAt (w:World)(p:Nat)(b s l r q:Int):Prop where
 blk:Blk w p 205 (cellsOf b s l r q 0 2 (2+2*r) (2+2*r+2*q) (2+2*r+4*q))
 ok:Ok b s l
 hr:r=(106+5*s)/64
 hq:q=(b+14)/15

theorem sl_of {b s l:Int}(h:Ok b s l):0≤s*l∧s*l≤2048:=by
 obtain⟨_,h1,h2⟩:=h;refine⟨Int.mul_nonneg (by omega) (by omega),?_⟩
 calc s*l≤32*64:=Int.mul_le_mul h1.2 h2.2 (by omega) (by omega)
  _=2048:=rfl

theorem upwards_eq (n d x:Int)(w:World)(hn:0≤n)(hn2:n≤1000000)(hd:1≤d)(hd2:d≤1000000)(hx:(n+d-1)/d=x):
  Calls Tryz.prog 124 #[.int .i64 n,.int .i64 d] w fun e w'=>e= .returned (.int .i64 x)∧w=w':=by
 subst hx;exact upwards_ok n d w hn hn2 hd hd2

theorem new_yes (b s l:Int)(w:World)(h:Ok b s l):
  Calls Tryz.prog 62 #[.agg #[.int .i64 b,.int .i64 s,.int .i64 l]] w fun e w'=>∃ p r q,e= .returned (.tuple #[.pointer (some ⟨p,0,none⟩),.int .i64 0])∧GAt w' p b s l r q∧w.heap.size≤p∧Kept [] w w':=by
 have hsl:=sl_of h;obtain⟨r,hr⟩:∃ r,(106+5*s)/64=r:=⟨_,rfl⟩;obtain⟨q,hq⟩:∃ q,(b+14)/15=q:=⟨_,rfl⟩
 have hr1:1≤r∧r≤10:=by
  obtain⟨_,h2,_⟩:=h
  omega
 have hq1:1≤q∧q≤10:=by
  obtain⟨h1,_⟩:=h
  omega
 have HR:=hide hr;have HQ:=hide hq;have HO:=hide h;obtain⟨h1,h2,h3⟩:=h;clear hr hq;have hk:=(Kept.refl [] w).alloc (.cells #[.int .i64 b,.int .i64 s,.int .i64 l] 29);have hb0:=Blk.new w 29 #[.int .i64 b,.int .i64 s,.int .i64 l];go_enter Tryz.func62,Tryz.ntmps62;go_wp2_with fail;refine(may_yes b s l _ HO.out).mono ?_;rintro e w1 ⟨rfl,hk1⟩;have hb1:=hk1.blk hb0 (by simp);have c0:w1.cell? ⟨w.heap.size,0,none⟩=some (.int .i64 b):=hb1.cell 0;have c1:w1.cell? ⟨w.heap.size,1,none⟩=some (.int .i64 s):=hb1.cell 1;have c2:w1.cell? ⟨w.heap.size,2,none⟩=some (.int .i64 l):=hb1.cell 2;have hk2:=hide (hk.trans hk1 (by simp));clear hk hk1 hb0 hb1;go_wp2_with fail;refine(upwards_eq b 15 q _ (by omega) (by omega) (by omega) (by omega) (by rw[←HQ.out];congr 1;omega)).mono ?_;rintro e w2 ⟨rfl,rfl⟩;go_wp2;have g1:IntKind.i64.wrap (5*s)=5*s:=IntWalk.i64_in _ (by omega);have g2:IntKind.i64.wrap (43+5*s)=43+5*s:=IntWalk.i64_in _ (by omega)
 go_region_held3 (fun W=>W.cell? ⟨w.heap.size,0,none⟩=some (.int .i64 b)∧W.cell? ⟨w.heap.size,1,none⟩=some (.int .i64 s)∧W.cell? ⟨w.heap.size,2,none⟩=some (.int .i64 l))
  (first|exact⟨c0,c1,c2⟩|exact⟨((Kept.refl [] w1).alloc _).cell c0 (by simp),((Kept.refl [] w1).alloc _).cell c1 (by simp),((Kept.refl [] w1).alloc _).cell c2 (by simp)⟩)
  (first|(go_at_call 124;refine(upwards_eq (43+5*s) 64 r _ (by omega) (by omega) (by omega) (by omega) (by rw[←HR.out];congr 1;omega)).mono ?_;rintro e w2 ⟨rfl,rfl⟩))
 have hg:Blk (w1.alloc (.cells (cellsOf b s l r q 0 0 0 0 0) 205)).drew w1.heap.size 205 (cellsOf b s l r q 0 0 0 0 0):=(Blk.new w1 _ _).drew;have hk3:=hide ((hk2.out.alloc (.cells (cellsOf b s l r q 0 0 0 0 0) 205)).drew);have hz:Hid (w.heap.size≤w1.heap.size):=hide hk2.out.size;clear g1 g2;go_wp2_with fail;refine(lay_ok _ b s l r q _ hg hr1 hq1 (by omega)).mono ?_;rintro e w2 ⟨rfl,hb2,hk4⟩;go_wp2;go_ret2;exact⟨_,r,q,rfl,⟨hb2,HO.out,HR.out.symm,HQ.out.symm⟩,hz.out,hk3.out.trans hk4 (fun i hi=> .inr (by simp at hi;subst hi;exact hz.out))⟩
end Go.Proofs.YtjkmahmoclobmaaGreat.geom

namespace Go.Proofs.YtjkmahmoclobmaaGreat.geom
open Go.RowKit mem base
theorem GAt.kept {w w':World}{p:Nat}{b s l r q:Int}{S:List Nat}(h:GAt w p b s l r q)(k:Kept S w w')(hp:p∉S:=by simp):GAt w' p b s l r q:=⟨k.blk h.blk hp,h.ok,h.hr,h.hq⟩
theorem GAt.lt {w:World}{p:Nat}{b s l r q:Int}(h:GAt w p b s l r q):p<w.heap.size:=h.blk.lt
def partOf (s l r q:Int):Int→Value
 | 0=>PV 0 2 1
 | 1=>PV 2 2 r
 | 2=>PV (2+2*r) (2*q) 1
 | 3=>PV (2+2*r+2*q) (2*q) 1
 | _=>PV (2+2*r+4*q) s l

theorem part_at (p:Nat)(b s l r q:Int)(k:Int)(hk:0≤k∧k<5)(w:World)(h:GAt w p b s l r q):
  Calls Tryz.prog 154 #[.pointer (some ⟨p,0,none⟩),.int .i64 k] w fun e w'=>e= .returned (partOf s l r q k)∧Kept [] w w':=by
 have H:=hide (h.kept ((Kept.refl [] w).alloc (.cells #[.int .i64 0,.int .i64 0,.int .i64 0] 202)));have HK:=hide fun vs:Array Value=>(Kept.refl [] w).alloc (.cells vs 202);clear h
 obtain rfl|rfl|rfl|rfl|rfl:k=0∨k=1∨k=2∨k=3∨k=4:=by omega
 ·have c0:(w.alloc (.cells #[.int .i64 0,.int .i64 0,.int .i64 0] 202)).cell? ⟨p,3,none⟩=some (.int .i64 (0)):=H.out.blk.cell 3;have c1:(w.alloc (.cells #[.int .i64 0,.int .i64 0,.int .i64 0] 202)).cell? ⟨p,4,none⟩=some (.int .i64 (2)):=H.out.blk.cell 4;have c2:(w.alloc (.cells #[.int .i64 0,.int .i64 0,.int .i64 0] 202)).cell? ⟨p,5,none⟩=some (.int .i64 (1)):=H.out.blk.cell 5;go_enter Tryz.func154,Tryz.ntmps154;go_wp2;refine bodyPost_ret (v:= .agg #[.int .i64 (0),.int .i64 (2),.int .i64 (1)]) (by simp [results,Tryz.results154,go_sem]) rfl ⟨rfl,?_⟩;exact HK.out _
 ·have c0:(w.alloc (.cells #[.int .i64 0,.int .i64 0,.int .i64 0] 202)).cell? ⟨p,6,none⟩=some (.int .i64 (2)):=H.out.blk.cell 6;have c1:(w.alloc (.cells #[.int .i64 0,.int .i64 0,.int .i64 0] 202)).cell? ⟨p,7,none⟩=some (.int .i64 (2)):=H.out.blk.cell 7;have c2:(w.alloc (.cells #[.int .i64 0,.int .i64 0,.int .i64 0] 202)).cell? ⟨p,8,none⟩=some (.int .i64 (r)):=H.out.blk.cell 8;go_enter Tryz.func154,Tryz.ntmps154;go_wp2;refine bodyPost_ret (v:= .agg #[.int .i64 (2),.int .i64 (2),.int .i64 (r)]) (by simp [results,Tryz.results154,go_sem]) rfl ⟨rfl,?_⟩;exact HK.out _
 ·have c0:(w.alloc (.cells #[.int .i64 0,.int .i64 0,.int .i64 0] 202)).cell? ⟨p,9,none⟩=some (.int .i64 (2+2*r)):=H.out.blk.cell 9;have c1:(w.alloc (.cells #[.int .i64 0,.int .i64 0,.int .i64 0] 202)).cell? ⟨p,10,none⟩=some (.int .i64 (2*q)):=H.out.blk.cell 10;have c2:(w.alloc (.cells #[.int .i64 0,.int .i64 0,.int .i64 0] 202)).cell? ⟨p,11,none⟩=some (.int .i64 (1)):=H.out.blk.cell 11;go_enter Tryz.func154,Tryz.ntmps154;go_wp2;refine bodyPost_ret (v:= .agg #[.int .i64 (2+2*r),.int .i64 (2*q),.int .i64 (1)]) (by simp [results,Tryz.results154,go_sem]) rfl ⟨rfl,?_⟩;exact HK.out _
 ·have c0:(w.alloc (.cells #[.int .i64 0,.int .i64 0,.int .i64 0] 202)).cell? ⟨p,12,none⟩=some (.int .i64 (2+2*r+2*q)):=H.out.blk.cell 12;have c1:(w.alloc (.cells #[.int .i64 0,.int .i64 0,.int .i64 0] 202)).cell? ⟨p,13,none⟩=some (.int .i64 (2*q)):=H.out.blk.cell 13;have c2:(w.alloc (.cells #[.int .i64 0,.int .i64 0,.int .i64 0] 202)).cell? ⟨p,14,none⟩=some (.int .i64 (1)):=H.out.blk.cell 14;go_enter Tryz.func154,Tryz.ntmps154;go_wp2;refine bodyPost_ret (v:= .agg #[.int .i64 (2+2*r+2*q),.int .i64 (2*q),.int .i64 (1)]) (by simp [results,Tryz.results154,go_sem]) rfl ⟨rfl,?_⟩;exact HK.out _
 ·have c0:(w.alloc (.cells #[.int .i64 0,.int .i64 0,.int .i64 0] 202)).cell? ⟨p,15,none⟩=some (.int .i64 (2+2*r+4*q)):=H.out.blk.cell 15;have c1:(w.alloc (.cells #[.int .i64 0,.int .i64 0,.int .i64 0] 202)).cell? ⟨p,16,none⟩=some (.int .i64 (s)):=H.out.blk.cell 16;have c2:(w.alloc (.cells #[.int .i64 0,.int .i64 0,.int .i64 0] 202)).cell? ⟨p,17,none⟩=some (.int .i64 (l)):=H.out.blk.cell 17;go_enter Tryz.func154,Tryz.ntmps154;go_wp2;refine bodyPost_ret (v:= .agg #[.int .i64 (2+2*r+4*q),.int .i64 (s),.int .i64 (l)]) (by simp [results,Tryz.results154,go_sem]) rfl ⟨rfl,?_⟩;exact HK.out _

def segAt (s l r q a:Int):Int:=if 0≤a∧a≤s-1 then 2+2*r+4*q+a*l else -1

theorem bounds_of {b s l r q:Int}(h:Ok b s l)(hr:r=(106+5*s)/64)(hq:q=(b+14)/15):2≤r∧r≤4∧1≤q∧q≤5:=by
 obtain⟨h1,h2,h3⟩:=h
 omega
theorem GAt.bounds {w:World}{p:Nat}{b s l r q:Int}(h:GAt w p b s l r q):2≤r∧r≤4∧1≤q∧q≤5:=bounds_of h.ok h.hr h.hq
theorem mul_le {i s l:Int}(hi:0≤i)(hi2:i≤s)(hs:s≤32)(hl:0≤l)(hl2:l≤64):0≤i*l∧i*l≤2048:=
 ⟨Int.mul_nonneg hi hl,calc i*l≤32*64:=Int.mul_le_mul (by omega) hl2 hl (by omega)
  _=2048:=rfl⟩

theorem config_at (p:Nat)(b s l r q:Int)(w:World)(h:GAt w p b s l r q):
  Calls Tryz.prog 142 #[.pointer (some ⟨p,0,none⟩)] w fun e w'=>e= .returned (.agg #[.int .i64 b,.int .i64 s,.int .i64 l])∧Kept [] w w':=by
 have H:=hide (h.kept ((Kept.refl [] w).alloc (.cells #[.int .i64 0,.int .i64 0,.int .i64 0] 29)));have HK:=hide fun vs:Array Value=>(Kept.refl [] w).alloc (.cells vs 29);clear h;have c0:(w.alloc (.cells #[.int .i64 0,.int .i64 0,.int .i64 0] 29)).cell? ⟨p,0,none⟩=some (.int .i64 b):=H.out.blk.cell 0;have c1:(w.alloc (.cells #[.int .i64 0,.int .i64 0,.int .i64 0] 29)).cell? ⟨p,1,none⟩=some (.int .i64 s):=H.out.blk.cell 1;have c2:(w.alloc (.cells #[.int .i64 0,.int .i64 0,.int .i64 0] 29)).cell? ⟨p,2,none⟩=some (.int .i64 l):=H.out.blk.cell 2;go_enter Tryz.func142,Tryz.ntmps142;go_wp2;refine bodyPost_ret (v:= .agg #[.int .i64 b,.int .i64 s,.int .i64 l]) (by simp [results,Tryz.results142,go_sem]) rfl ⟨rfl,?_⟩;exact HK.out _

theorem seg_any (p:Nat)(b s l r q a:Int)(w:World)(h:GAt w p b s l r q):
  Calls Tryz.prog 90 #[.pointer (some ⟨p,0,none⟩),.int .i64 a] w fun e w'=>e= .returned (.int .i64 (segAt s l r q a))∧Kept [] w w':=by
 have H:=hide h;have hb:=h.bounds;have hs:=h.ok;unfold Ok at hs;clear h
 by_cases hi:0≤a∧a≤s-1
 ·have hv:Hid (segAt s l r q a=2+2*r+4*q+a*l):=hide (by unfold segAt;rw[if_pos (by omega)]);have hm:0≤a*l∧a*l≤2048:=mul_le (s:=31) hi.1 (by omega) (by omega) (by omega) (by omega);go_enter Tryz.func90,Tryz.ntmps90;go_wp2_with fail;refine(part_at p b s l r q 4 (by omega) _ H.out).mono ?_;rintro e w1 ⟨rfl,hk⟩;unfold partOf;go_wp2_with fail;refine(first_yes (2+2*r+4*q) s l a _ (by omega) (by omega) hi hm.1 (by omega) (by omega) (by omega)).mono ?_;rintro e w2 ⟨rfl,hk2⟩;go_wp2;go_ret;exact⟨congrArg (fun q=>Ending.returned (.int .i64 q)) hv.out.symm,hk.trans hk2 (by simp)⟩
 ·have hv:Hid (segAt s l r q a= -1):=hide (by unfold segAt;rw[if_neg (by omega)])
  have hi2:a<0∨s-1<a:=by omega
  clear hi;go_enter Tryz.func90,Tryz.ntmps90;go_wp2_with fail;refine(part_at p b s l r q 4 (by omega) _ H.out).mono ?_;rintro e w1 ⟨rfl,hk⟩;unfold partOf;go_wp2_with fail;refine(first_no (2+2*r+4*q) s l a _ (by omega) (by omega) hi2).mono ?_;rintro e w2 ⟨rfl,hk2⟩;go_wp2;go_ret;exact⟨congrArg (fun q=>Ending.returned (.int .i64 q)) hv.out.symm,hk.trans hk2 (by simp)⟩

end Go.Proofs.YtjkmahmoclobmaaGreat.geom
