import Derived.Test.YtjkmahmoclobmaaGreatQChainSegM
import Derived.Deep.CutRange
import Derived.Test.YtjkmahmoclobmaaGreatQOrders
namespace Go.Proofs.YtjkmahmoclobmaaGreat.sc
set_option linter.unusedSimpArgs false
set_option linter.unusedVariables false
open Go.RowKit mem base disk geom owns
open record (Rc RcIn RcAt put5 put5_kept cell5)
open item (It Items)
attribute [local go_sem] Oper.semAt_some
structure Rg1 (w W:World)(dv:Option Addr)(a z:Int)(p:Ps)(o8 o9 ox:Option Nat):Prop where
 k:Kept [] w W
 h8:∀ y,o8=some y→Blk W y 49 #[.pointer none]∧w.heap.size≤y
 h9:∀ y,o9=some y→Blk W y 4 #[.bool false]∧w.heap.size≤y
 hx:∀ y,ox=some y→ScAt W y dv a z p false p 0∧w.heap.size≤y
 n1:∀ y y',o8=some y→o9=some y'→y≠y'
 n2:∀ y y',o8=some y→ox=some y'→y≠y'
 n3:∀ y y',o9=some y→ox=some y'→y≠y'
theorem Rg1.kp {w W W':World}{dv:Option Addr}{a z:Int}{p:Ps}{o8 o9 ox:Option Nat}(h:Rg1 w W dv a z p o8 o9 ox)(k:Kept [] W W'):Rg1 w W' dv a z p o8 o9 ox:=
 ⟨h.k.trans k (by simp),fun y hy=>⟨k.blk (h.h8 y hy).1 (by simp),(h.h8 y hy).2⟩,fun y hy=>⟨k.blk (h.h9 y hy).1 (by simp),(h.h9 y hy).2⟩,fun y hy=>⟨(h.hx y hy).1.kept k (by simp),(h.hx y hy).2⟩,h.n1,h.n2,h.n3⟩
theorem Rg1.a8 {w W:World}{dv:Option Addr}{a z:Int}{p:Ps}{o9 ox:Option Nat}(h:Rg1 w W dv a z p none o9 ox):Rg1 w (W.alloc (.cells #[.pointer none] 49)) dv a z p (some W.heap.size) o9 ox:=by
 have h1:=h.kp ((Kept.refl [] W).alloc (.cells #[.pointer none] 49))
 refine⟨h1.k,fun y hy=> ?_,h1.h9,h1.hx,fun y y' hy hy'=> ?_,fun y y' hy hy'=> ?_,h1.n3⟩
 ·injection hy with hy;subst hy;exact⟨Blk.new W _ _,h.k.size⟩
 ·injection hy with hy;subst hy;have:=(h.h9 y' hy').1.lt;omega
 ·injection hy with hy;subst hy;have:=(h.hx y' hy').1.lt;omega
theorem Rg1.a9 {w W:World}{dv:Option Addr}{a z:Int}{p:Ps}{o8 ox:Option Nat}(h:Rg1 w W dv a z p o8 none ox):Rg1 w (W.alloc (.cells #[.bool false] 4)) dv a z p o8 (some W.heap.size) ox:=by
 have h1:=h.kp ((Kept.refl [] W).alloc (.cells #[.bool false] 4))
 refine⟨h1.k,h1.h8,fun y hy=> ?_,h1.hx,fun y y' hy hy'=> ?_,h1.n2,fun y y' hy hy'=> ?_⟩
 ·injection hy with hy;subst hy;exact⟨Blk.new W _ _,h.k.size⟩
 ·injection hy' with hy';subst hy';have:=(h.h8 y hy).1.lt;omega
 ·injection hy with hy;subst hy;have:=(h.hx y' hy').1.lt;omega
theorem Rg1.s8 {w W:World}{dv:Option Addr}{a z:Int}{p:Ps}{y8 y9 x:Nat}(h:Rg1 w W dv a z p (some y8) (some y9) (some x))(v:Value):Kept [] w (W.setCell ⟨y8,0,none⟩ v):=
 h.k.trans ((Kept.refl [y8] W).set_ (b:=y8) (.inl (by simp)) 0 v) (fun i hi=>by simp at hi;subst hi;exact .inr (h.h8 _ rfl).2)
theorem Rg1.s9 {w W:World}{dv:Option Addr}{a z:Int}{p:Ps}{y8 y9 x:Nat}(h:Rg1 w W dv a z p (some y8) (some y9) (some x))(v u:Value):Kept [] w ((W.setCell ⟨y8,0,none⟩ v).setCell ⟨y9,0,none⟩ u):=
 (h.s8 v).trans ((Kept.refl [y9] _).set_ (b:=y9) (.inl (by simp)) 0 u) (fun i hi=>by simp at hi;subst hi;exact .inr (h.h9 _ rfl).2)
theorem Rg1.fin {w W:World}{dv:Option Addr}{a z:Int}{p:Ps}{y8 y9 x:Nat}(h:Rg1 w W dv a z p (some y8) (some y9) (some x)):
  Blk ((W.setCell ⟨y8,0,none⟩ (.pointer (some ⟨x,0,none⟩))).setCell ⟨y9,0,none⟩ (.bool false)) y8 49 #[.pointer (some ⟨x,0,none⟩)]∧
  Blk ((W.setCell ⟨y8,0,none⟩ (.pointer (some ⟨x,0,none⟩))).setCell ⟨y9,0,none⟩ (.bool false)) y9 4 #[.bool false]∧
  ScAt ((W.setCell ⟨y8,0,none⟩ (.pointer (some ⟨x,0,none⟩))).setCell ⟨y9,0,none⟩ (.bool false)) x dv a z p false p 0∧
  Kept [] w ((W.setCell ⟨y8,0,none⟩ (.pointer (some ⟨x,0,none⟩))).setCell ⟨y9,0,none⟩ (.bool false))∧(w.heap.size≤y8∧w.heap.size≤y9∧w.heap.size≤x∧y8≠y9∧y8≠x∧y9≠x):=by
 have k8:=(Kept.refl [y8] W).set_ (b:=y8) (.inl (by simp)) 0 (.pointer (some ⟨x,0,none⟩))
 have k9:=(Kept.refl [y9] (W.setCell ⟨y8,0,none⟩ (.pointer (some ⟨x,0,none⟩)))).set_ (b:=y9) (.inl (by simp)) 0 (.bool false)
 have n1:=h.n1 _ _ rfl rfl
 have n2:=h.n2 _ _ rfl rfl
 have n3:=h.n3 _ _ rfl rfl
 refine⟨k9.blk (Blk.set_ (h.h8 _ rfl).1 0 _) (by simpa using n1),?_,((h.hx _ rfl).1.kept k8 (by simpa using n2.symm)).kept k9 (by simpa using n3.symm),h.s9 _ _,(h.h8 _ rfl).2,(h.h9 _ rfl).2,(h.hx _ rfl).2,n1,n2,n3⟩
 exact Blk.set_ (k8.blk (h.h9 _ rfl).1 (by simpa using n1.symm)) 0 (.bool false)
end Go.Proofs.YtjkmahmoclobmaaGreat.sc
namespace Go.Proofs.YtjkmahmoclobmaaGreat.sc
set_option linter.unusedSimpArgs false
set_option linter.unusedVariables false
open Go.RowKit mem base disk geom owns
open record (Rc RcIn RcAt put5 put5_kept cell5)
open item (It Items)
section
variable (N Nx:Wd)(Bs c d gp:Nat)(F C0:List Nat)(W0:World)(D:Dk)(b s l r q:Int)(fr:Ps)(L:List (Ps×Rc))(E:Ps)(err:Int)
structure CrW (W:World)(C:List Nat)(en:Ps)(er:Int):Prop where
 box:Blk W Bs 65 #[.pointer (some ⟨c,0,none⟩)]
 cc:CcAt W c d gp fr en er
 geo:GAt W gp b s l r q
 disk:VD W F d D
 sub:∀ y∈C,y∈C0∨W0.heap.size≤y
 ap:∀ y,(y=Bs∨y=c∨y=gp∨y∈F)→y∉C
 kept:Kept (c::C0) W0 W
end
section
variable {N Nx:Wd}{Bs c d gp:Nat}{F C0:List Nat}{W0:World}{D:Dk}{b s l r q:Int}{fr:Ps}{L:List (Ps×Rc)}{E:Ps}{err:Int}{W W':World}{C:List Nat}{en:Ps}{er:Int}
theorem CrW.keep (h:CrW Bs c d gp F C0 W0 D b s l r q fr W C en er){S:List Nat}(k:Kept S W W')(hS:∀ y∈S,y≠Bs∧y≠c∧y≠gp∧y∉F)(hs:∀ y∈S,W0.heap.size≤y):CrW Bs c d gp F C0 W0 D b s l r q fr W' C en er:=
 ⟨k.blk h.box (fun hm=>(hS _ hm).1 rfl),h.cc.kept k (fun hm=>(hS _ hm).2.1 rfl),h.geo.kept k (fun hm=>(hS _ hm).2.2.1 rfl),h.disk.kept k (fun y hy hm=>(hS _ hm).2.2.2 hy),h.sub,h.ap,h.kept.trans k (fun y hy=> .inr (hs y hy))⟩
theorem CrW.seg (h:CrW Bs c d gp F C0 W0 D b s l r q fr W C en er){C':List Nat}(k:Kept (c::C) W W')(hC:∀ y∈C',y∈C∨W.heap.size≤y)(hap:∀ y,(y=c∨y=gp∨y∈F)→y∉C'){en':Ps}{er':Int}(cc:CcAt W' c d gp fr en' er')(hcg:c≠gp)(hcf:c∉F)(hcb:c≠Bs):CrW Bs c d gp F C0 W0 D b s l r q fr W' C' en' er':=by
 have hsz:=h.kept.size
 have hbl:=h.box.lt
 refine⟨k.blk h.box (by simpa using⟨fun e=>hcb e.symm,h.ap _ (.inl rfl)⟩),cc,h.geo.kept k (by simpa using⟨fun e=>hcg e.symm,h.ap _ (.inr (.inr (.inl rfl)))⟩),h.disk.kept k (fun y hy hm=>(List.mem_cons.1 hm).elim (fun e=>hcf (e▸hy)) (h.ap _ (.inr (.inr (.inr hy))))),fun y hy=>(hC y hy).elim (h.sub y) (fun h2=> .inr (by omega)),?_,h.kept.trans k (fun y hy=>(List.mem_cons.1 hy).elim (fun e=> .inl (by simp [e])) (fun h2=>(h.sub y h2).imp (fun h3=>by simp [h3]) id))⟩
 rintro y (rfl|hy) hm
 ·exact(hC y hm).elim (h.ap _ (.inl rfl)) (fun h2=>by omega)
 ·exact hap y hy hm
end
end Go.Proofs.YtjkmahmoclobmaaGreat.sc
namespace Go.Proofs.YtjkmahmoclobmaaGreat.sc
set_option linter.unusedSimpArgs false
set_option linter.unusedVariables false
open Go.RowKit mem
open record (Rc RcIn)
section
variable {P:Program}{n:Nat}
end
end Go.Proofs.YtjkmahmoclobmaaGreat.sc
