import Derived.Test.YtjkmahmoclobmaaGreatQChainMath
import Derived.Test.YtjkmahmoclobmaaGreatQScanToldCore
import Derived.Test.YtjkmahmoclobmaaGreatQHeld
import Derived.OrdersIn
namespace Go.Proofs.YtjkmahmoclobmaaGreat.sc
set_option linter.unusedSimpArgs false
open Go.RowKit mem base disk geom owns
open record (Rc RcIn RcAt put5 put5_kept cell5)
open item (It Items)
def CcAt (w:World)(c d gp:Nat)(p e:Ps)(er:Int):Prop:=
 Blk w c 165 #[.pointer (some ⟨d,0,none⟩),.pointer (some ⟨gp,0,none⟩),.int .i64 p.s,.int .i64 p.o,.int .i64 p.l,.int .i64 p.v,.int .i64 p.m,.int .i64 e.s,.int .i64 e.o,.int .i64 e.l,.int .i64 e.v,.int .i64 e.m,.int .i64 er]
section
variable {w w':World}{S:List Nat}{c d gp:Nat}{p e:Ps}{er:Int}
theorem CcAt.kept (h:CcAt w c d gp p e er)(k:Kept S w w')(hc:c∉S):CcAt w' c d gp p e er:=k.blk h hc
theorem CcAt.lt (h:CcAt w c d gp p e er):c<w.heap.size:=Blk.lt h
theorem CcAt.two (h:CcAt w c d gp p e er):w.cell? ⟨c,0,none⟩=some (.pointer (some ⟨d,0,none⟩))∧w.cell? ⟨c,1,none⟩=some (.pointer (some ⟨gp,0,none⟩)):=⟨Blk.cell h 0,Blk.cell h 1⟩
theorem CcAt.from_ (h:CcAt w c d gp p e er):w.cell? ⟨c,2,none⟩=some (.int .i64 p.s)∧w.cell? ⟨c,3,none⟩=some (.int .i64 p.o)∧w.cell? ⟨c,4,none⟩=some (.int .i64 p.l)∧w.cell? ⟨c,5,none⟩=some (.int .i64 p.v)∧w.cell? ⟨c,6,none⟩=some (.int .i64 p.m):=⟨Blk.cell h 2,Blk.cell h 3,Blk.cell h 4,Blk.cell h 5,Blk.cell h 6⟩
theorem CcAt.end_ (h:CcAt w c d gp p e er):w.cell? ⟨c,7,none⟩=some (.int .i64 e.s)∧w.cell? ⟨c,8,none⟩=some (.int .i64 e.o)∧w.cell? ⟨c,9,none⟩=some (.int .i64 e.l)∧w.cell? ⟨c,10,none⟩=some (.int .i64 e.v)∧w.cell? ⟨c,11,none⟩=some (.int .i64 e.m)∧w.cell? ⟨c,12,none⟩=some (.int .i64 er):=⟨Blk.cell h 7,Blk.cell h 8,Blk.cell h 9,Blk.cell h 10,Blk.cell h 11,Blk.cell h 12⟩
theorem CcAt.frozen (h:CcAt w c d gp p e er)(i:Nat):w.frozen? ⟨c,i,none⟩=false:=Blk.frozen h i
theorem CcAt.setEnd (h:CcAt w c d gp p e er)(y:Ps):CcAt (((((w.setCell ⟨c,7,none⟩ (.int .i64 y.s)).setCell ⟨c,8,none⟩ (.int .i64 y.o)).setCell ⟨c,9,none⟩ (.int .i64 y.l)).setCell ⟨c,10,none⟩ (.int .i64 y.v)).setCell ⟨c,11,none⟩ (.int .i64 y.m)) c d gp p y er:=
 Blk.set_ (Blk.set_ (Blk.set_ (Blk.set_ (Blk.set_ h 7 _) 8 _) 9 _) 10 _) 11 _
theorem CcAt.setErr (h:CcAt w c d gp p e er)(y:Int):CcAt (w.setCell ⟨c,12,none⟩ (.int .i64 y)) c d gp p e y:=Blk.set_ h 12 _
end
end Go.Proofs.YtjkmahmoclobmaaGreat.sc
namespace Go.Proofs.YtjkmahmoclobmaaGreat.sc
set_option linter.unusedSimpArgs false
open Go.RowKit mem base disk geom owns
open record (Rc RcIn RcAt put5 put5_kept cell5)
open item (It Items)
end Go.Proofs.YtjkmahmoclobmaaGreat.sc
set_option linter.unusedSimpArgs false
namespace Go.Proofs.YtjkmahmoclobmaaGreat.sc
open Go.RowKit mem base disk owns
open record (Rc RcIn RcAt put5 put5_kept cell5)
attribute [local go_sem] Oper.semAt_some
end Go.Proofs.YtjkmahmoclobmaaGreat.sc
namespace Go.Proofs.YtjkmahmoclobmaaGreat.sc
open Go.RowKit mem
open record (Rc RcIn)
section
variable {P:Program}{n:Nat}
end
end Go.Proofs.YtjkmahmoclobmaaGreat.sc
namespace Go.Proofs.YtjkmahmoclobmaaGreat.base
open Go.RowKit mem
def Only (Q:Exit→Act→World→Prop):Exit→Act→World→Prop
 | .normal,a,w=>Q .normal a w
 | _,_,_=>False
theorem Only.normal {Q:Exit→Act→World→Prop}{a:Act}{w:World}(h:Q .normal a w):Only Q .normal a w:=h
theorem Only.out {Q:Exit→Act→World→Prop}:¬LetsOut (Only Q):=fun ⟨_,_,h⟩=>h
theorem Only.imp {Q:Exit→Act→World→Prop}:∀ (e:Exit) (a:Act) (w:World),Only Q e a w→Q e a w:=fun e a w h=>by
 cases e<;>first|exact h|exact(h:False).elim
variable {P:Program}{ops:Array Oper}{Q:Exit→Act→World→Prop}{lp n:Nat}
end Go.Proofs.YtjkmahmoclobmaaGreat.base
