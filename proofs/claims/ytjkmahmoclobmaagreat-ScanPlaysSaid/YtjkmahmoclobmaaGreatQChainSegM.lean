import Derived.Test.YtjkmahmoclobmaaGreatQRoundHeld
namespace Go.Proofs.YtjkmahmoclobmaaGreat.sc
set_option linter.unusedSimpArgs false
set_option linter.unusedVariables false
open Go.RowKit mem base disk geom owns
open record (Rc RcIn RcAt put5 put5_kept cell5)
open item (It Items)
abbrev Wd:=List Nat→List (Ps×Rc)→List Nat→World→Prop
def Grows (N:Wd):Prop:=∀ I J pre C W,N I pre C W→(∀ y∈J,y∈I∨W.heap.size≤y)→N J pre C W
structure Sb where
 (b3 b4 b5 b6 b7 b8 b9:Nat)
 ex:List Nat
def Sb.all (B:Sb):List Nat:=[B.b3,B.b4,B.b5,B.b6,B.b7,B.b8,B.b9]
def Sb.turned (B:Sb)(c:Nat):List Nat:=B.b4::B.b9::B.b6::B.b7::c::B.ex

section
variable (B:Sb)(lp c d gp x Z:Nat)(F C0:List Nat)(W0:World)(D:Dk)(b s l r q:Int)(fr:Ps)
structure SegW (Is:List Nat)(Cs:List Nat)(W:World)(C:List Nat)(at_:Ps)(on:Bool)(en:Ps)(er:Int):Prop where
 cs:Cs=B.turned c++C
 x3:Blk W B.b3 65 #[.pointer (some ⟨c,0,none⟩)]
 x4:Blk W B.b4 24 #[.int .i64 at_.s,.int .i64 at_.o,.int .i64 at_.l,.int .i64 at_.v,.int .i64 at_.m]
 x5:Blk W B.b5 238 #[.func (.yield lp) #[] #[]]
 x6:Blk W B.b6 24 #[.int .i64 0,.int .i64 0,.int .i64 0,.int .i64 0,.int .i64 0]
 x7:Blk W B.b7 4 #[.bool false]
 x8:Blk W B.b8 49 #[.pointer (some ⟨x,0,none⟩)]
 x9:Blk W B.b9 4 #[.bool on]
 cc:CcAt W c d gp fr en er
 geo:GAt W gp b s l r q
 disk:VD W F d D
 sub:∀ y∈C,y∈C0∨Z≤y
 kept:Kept (c::C0) W0 W
 isn:∀ y∈Is,Z≤y∧y∉B.all
 ap:∀ y,(y∈B.all∨y=c∨y=gp∨y∈F)→y∉C
end
structure Old (B:Sb)(c gp x Z:Nat)(F:List Nat):Prop where
 oc:c<Z
 ogp:gp<Z
 of:∀ y∈F,y<Z
 ox:Z≤x
 oba:∀ y∈B.all,Z≤y
 obx:x∉B.all
 ocg:c≠gp
 ocf:c∉F
 oex:∀ y∈B.ex,y<Z
section
variable {B:Sb}{lp c d gp x Z:Nat}{F C0:List Nat}{W0:World}{D:Dk}{b s l r q:Int}{fr:Ps}{Is:List Nat}{Cs:List Nat}{W W':World}{C:List Nat}{at_:Ps}{on:Bool}{en:Ps}{er:Int}
theorem Sb.mem (B:Sb):B.b3∈B.all∧B.b4∈B.all∧B.b5∈B.all∧B.b6∈B.all∧B.b7∈B.all∧B.b8∈B.all∧B.b9∈B.all:=by
 unfold Sb.all;simp
theorem SegW.keep (h:SegW B lp c d gp x Z F C0 W0 D b s l r q fr Is Cs W C at_ on en er){S:List Nat}(k:Kept S W W')(hS:∀ y∈S,y∉B.all∧y≠c∧y≠gp∧y∉F)(hs:∀ y∈S,y∈C∨W0.heap.size≤y)(hZ:W0.heap.size=Z):SegW B lp c d gp x Z F C0 W0 D b s l r q fr Is Cs W' C at_ on en er:=by
 obtain⟨m3,m4,m5,m6,m7,m8,m9⟩:=B.mem
 have hB:∀ y∈B.all,y∉S:=fun y hy hm=>(hS y hm).1 hy
 exact⟨h.cs,k.blk h.x3 (hB _ m3),k.blk h.x4 (hB _ m4),k.blk h.x5 (hB _ m5),k.blk h.x6 (hB _ m6),k.blk h.x7 (hB _ m7),k.blk h.x8 (hB _ m8),k.blk h.x9 (hB _ m9),h.cc.kept k (fun hm=>(hS _ hm).2.1 rfl),h.geo.kept k (fun hm=>(hS _ hm).2.2.1 rfl),h.disk.kept k (fun y hy hm=>(hS _ hm).2.2.2 hy),h.sub,
  h.kept.trans k (fun y hy=>(hs y hy).elim (fun h1=>(h.sub y h1).imp (fun h2=>by simp [h2]) (fun h2=>by omega)) .inr),h.isn,h.ap⟩
theorem SegW.abide (h:SegW B lp c d gp x Z F C0 W0 D b s l r q fr Is Cs W C at_ on en er)(o:Old B c gp x Z F)(hZ:W0.heap.size=Z){S:List Nat}(k:Kept S W W')(hS:∀ y∈S,y∈Is):SegW B lp c d gp x Z F C0 W0 D b s l r q fr Is Cs W' C at_ on en er:=
 h.keep k (fun y hy=>by
  obtain⟨h1,h2⟩:=h.isn y (hS y hy)
  exact⟨h2,fun e=>by have:=o.oc;omega,fun e=>by have:=o.ogp;omega,fun hm=>by have:=o.of y hm;omega⟩) (fun y hy=> .inr (by have:=(h.isn y (hS y hy)).1;omega)) hZ
theorem SegW.lts (h:SegW B lp c d gp x Z F C0 W0 D b s l r q fr Is Cs W C at_ on en er)(o:Old B c gp x Z F)(hZ:W0.heap.size=Z):∀ y,(y∈B.all∨y=c∨y=gp∨y∈F)→y<W.heap.size:=by
 have hk:=h.kept.size
 rintro y (hy|rfl|rfl|hy)
 ·unfold Sb.all at hy
  simp at hy
  rcases hy with rfl|rfl|rfl|rfl|rfl|rfl|rfl
  ·exact h.x3.lt
  ·exact h.x4.lt
  ·exact h.x5.lt
  ·exact h.x6.lt
  ·exact h.x7.lt
  ·exact h.x8.lt
  ·exact h.x9.lt
 ·exact h.cc.lt
 ·have:=o.ogp;omega
 ·have:=o.of y hy;omega
end
def SegN (N:Wd)(B:Sb)(lp c d gp x Z:Nat)(F C0:List Nat)(W0:World)(D:Dk)(b s l r q:Int)(fr p:Ps)(a z:Int)(pre0:List (Ps×Rc))(Is:List Nat)(pre:List (Ps×Rc))(Cs:List Nat)(W:World):Prop:=
 ∃ C at_ on en er,SegW B lp c d gp x Z F C0 W0 D b s l r q fr Is Cs W C at_ on en er∧(Stand D a z s p pre at_ on∧(pre≠[]→en=at_∧er=0))∧N (Is++B.turned c) (pre0++pre) C W
def SegX (Nx:Wd)(B:Sb)(lp c d gp x Z:Nat)(F C0:List Nat)(W0:World)(D:Dk)(b s l r q:Int)(fr p:Ps)(a z:Int)(pre0 L:List (Ps×Rc))(code:Code)(Is:List Nat)(pre:List (Ps×Rc))(Cs:List Nat)(W:World):Prop:=
 code= .ret∧∃ C at_ on en er,SegW B lp c d gp x Z F C0 W0 D b s l r q fr Is Cs W C at_ on en er∧(Stand D a z s p pre at_ on∧(pre≠[]→en=at_∧er=0))∧(pre≠[]∧pre <+: L)∧Nx (Is++B.turned c) (pre0++pre) C W
section
variable {N Nx:Wd}{B:Sb}{lp c d gp x Z:Nat}{F C0:List Nat}{W0:World}{D:Dk}{b s l r q:Int}{fr p:Ps}{a z:Int}{pre0 L:List (Ps×Rc)}
theorem SegN.abides (hN:Abides N)(o:Old B c gp x Z F)(hZ:W0.heap.size=Z):Abides (SegN N B lp c d gp x Z F C0 W0 D b s l r q fr p a z pre0):=fun I pre Cs W W' S ⟨C,at_,on,en,er,h,hs,hn⟩ k hS=>
 ⟨C,at_,on,en,er,h.abide o hZ k hS,hs,hN _ _ _ _ _ _ hn k (fun y hy=>List.mem_append_left _ (hS y hy))⟩
theorem SegX.abides (hN:Abides Nx)(o:Old B c gp x Z F)(hZ:W0.heap.size=Z)(code:Code):Abides (SegX Nx B lp c d gp x Z F C0 W0 D b s l r q fr p a z pre0 L code):=fun I pre Cs W W' S ⟨h0,C,at_,on,en,er,h,hs,h1,hn⟩ k hS=>
 ⟨h0,C,at_,on,en,er,h.abide o hZ k hS,hs,h1,hN _ _ _ _ _ _ hn k (fun y hy=>List.mem_append_left _ (hS y hy))⟩
theorem SegN.lt (hC:∀ I pre C W,N I pre C W→∀ y∈C,y<W.heap.size)(o:Old B c gp x Z F)(hZ:W0.heap.size=Z):∀ I pre Cs W,SegN N B lp c d gp x Z F C0 W0 D b s l r q fr p a z pre0 I pre Cs W→∀ y∈Cs,y<W.heap.size:=fun I pre Cs W ⟨C,at_,on,en,er,h,hs,hn⟩ y hy=>by
 rw[h.cs]at hy
 rcases List.mem_append.1 hy with hy|hy
 ·by_cases hx:y∈B.ex
  ·have h1:=o.oex y hx
   have h2:=h.kept.size
   omega
  refine h.lts o hZ y ?_
  unfold Sb.turned at hy
  unfold Sb.all
  simp [hx]at hy ⊢
  rcases hy with rfl|rfl|rfl|rfl|rfl<;>simp
 ·exact hC _ _ _ _ hn y hy
end
section
variable {B:Sb}{lp c d gp x Z:Nat}{F C0:List Nat}{W0:World}{D:Dk}{b s l r q:Int}{fr:Ps}{Is:List Nat}{Cs:List Nat}{W W':World}{C:List Nat}{at_:Ps}{on:Bool}{en:Ps}{er:Int}
theorem SegW.place (h:SegW B lp c d gp x Z F C0 W0 D b s l r q fr Is Cs W C at_ on en er)(o:Old B c gp x Z F)(hZ:W0.heap.size=Z)(hd4:B.b4∉[B.b3,B.b5,B.b6,B.b7,B.b8])(hd9:B.b9∉[B.b3,B.b5,B.b6,B.b7,B.b8])(k:Kept [B.b4,B.b9] W W'){at':Ps}{on':Bool}
  (x4:Blk W' B.b4 24 #[.int .i64 at'.s,.int .i64 at'.o,.int .i64 at'.l,.int .i64 at'.v,.int .i64 at'.m]) (x9:Blk W' B.b9 4 #[.bool on']):
  SegW B lp c d gp x Z F C0 W0 D b s l r q fr Is Cs W' C at' on' en er:=by
 obtain⟨m3,m4,m5,m6,m7,m8,m9⟩:=B.mem
 simp at hd4 hd9
 have hn:∀ i,(i=B.b3∨i=B.b5∨i=B.b6∨i=B.b7∨i=B.b8∨i=c∨i=gp∨i∈F)→i∉[B.b4,B.b9]:=fun i hi hm=>by
  have z4:=o.oba _ m4
  have z9:=o.oba _ m9
  have:=o.oc
  have:=o.ogp
  simp at hm
  rcases hi with hi|hi|hi|hi|hi|hi|hi|hi
  ·subst hi;omega
  ·subst hi;omega
  ·subst hi;omega
  ·subst hi;omega
  ·subst hi;omega
  ·omega
  ·omega
  ·have:=o.of i hi;omega
 exact⟨h.cs,k.blk h.x3 (hn _ (by simp)),x4,k.blk h.x5 (hn _ (by simp)),k.blk h.x6 (hn _ (by simp)),k.blk h.x7 (hn _ (by simp)),k.blk h.x8 (hn _ (by simp)),x9,h.cc.kept k (hn _ (by simp)),h.geo.kept k (hn _ (by simp)),h.disk.kept k (fun i hi=>hn _ (by simp [hi])),h.sub,
  h.kept.trans k (fun i hi=> .inr (by simp at hi;rcases hi with rfl|rfl;exact hZ▸o.oba _ m4;exact hZ▸o.oba _ m9)),h.isn,h.ap⟩
theorem SegW.ends (h:SegW B lp c d gp x Z F C0 W0 D b s l r q fr Is Cs W C at_ on en er)(o:Old B c gp x Z F)(k:Kept [c] W W'){en':Ps}{er':Int}(cc:CcAt W' c d gp fr en' er'):
  SegW B lp c d gp x Z F C0 W0 D b s l r q fr Is Cs W' C at_ on en' er':=by
 obtain⟨m3,m4,m5,m6,m7,m8,m9⟩:=B.mem
 have hn:∀ i,i∈B.all→i∉[c]:=fun i hi hm=>by
  have:=o.oba _ hi
  have:=o.oc
  simp at hm
  omega
 exact⟨h.cs,k.blk h.x3 (hn _ m3),k.blk h.x4 (hn _ m4),k.blk h.x5 (hn _ m5),k.blk h.x6 (hn _ m6),k.blk h.x7 (hn _ m7),k.blk h.x8 (hn _ m8),k.blk h.x9 (hn _ m9),cc,h.geo.kept k (by simpa using o.ocg.symm),h.disk.kept k (fun i hi hm=>by simp at hm;subst hm;exact o.ocf hi),h.sub,
  h.kept.trans k (fun i hi=> .inl (by simp at hi;simp [hi])),h.isn,h.ap⟩
end
end Go.Proofs.YtjkmahmoclobmaaGreat.sc
