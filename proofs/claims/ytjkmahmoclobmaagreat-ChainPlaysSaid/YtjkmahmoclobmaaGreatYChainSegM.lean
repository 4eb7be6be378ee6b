import Derived.Test.YtjkmahmoclobmaaGreatYHeld
import Derived.OrdersIn
import Derived.Test.YtjkmahmoclobmaaGreatYChainStep
import Derived.Test.YtjkmahmoclobmaaGreatYChainTell
namespace Go.Proofs.YtjkmahmoclobmaaGreat.base
open Go.RowKit mem
def Only (Q:Exit→Act→World→Prop):Exit→Act→World→Prop
 | .normal,a,w=>Q .normal a w
 | _,_,_=>False
theorem Only.normal {Q:Exit→Act→World→Prop}{a:Act}{w:World}(h:Q .normal a w):Only Q .normal a w:=h
theorem Only.out {Q:Exit→Act→World→Prop}:¬LetsOut (Only Q):=fun ⟨_,_,h⟩=>h
theorem Only.imp {Q:Exit→Act→World→Prop}:∀ (e:Exit) (a:Act) (w:World),Only Q e a w→Q e a w:=fun e a w h=>by
 cases e<;>first|exact h|exact(h:False).elim
def noDefer (ops:Array Oper):Bool:=ops.all fun o=>match o.op with| .defer _=>false|_=>true
theorem noDefer_spec {ops:Array Oper}(h:noDefer ops=true){i:Nat}{o:Oper}(ho:ops[i]? = some o):∀ c,o.op≠ .defer c:=by
 intro c hc;unfold noDefer at h;obtain⟨hi,he⟩:=Array.getElem?_eq_some_iff.1 ho
 have:=Array.all_eq_true.1 h i hi
 rw[he,hc]at this;cases this

variable {P:Program}{ops:Array Oper}{Q:Exit→Act→World→Prop}{lp n:Nat}
theorem upon_round {o:Oper}{a:Act}{K K':Act→World→Prop}(hK:∀ a w,K a w→K' a w):∀ (r:Result Next),o.upon P a K Q r→o.uponIn (Fence.wide.inRound lp) n P a K' Q r:=by
 intro r h
 cases r with
 | ok x w'=>
  cases x with
  | value v=>exact hK _ _ h
  | skip=>exact hK _ _ h
  | defer d=>exact hK _ _ h
  | enter f args=>
   rw[Oper.upon_enter]at h;rw[Oper.uponIn_enter];refine⟨(fun hd=>by cases hd),?_⟩;have h2:CallsIn Fence.wide (n-1) P f args w' _:=callsIn_wide.2 h;refine CallsIn.mono (F:=Fence.wide.inRound lp) h2 ?_;intro e w'' he
   cases e<;>first|exact hK _ _ he|exact he
  | row row args=>
   rw[Oper.upon_row]at h;rw[Oper.uponIn_row];refine⟨(fun hd=>by cases hd),?_⟩;intro c cs _;obtain⟨v,w'',h1,h2⟩:=h c cs;exact⟨v,w'',hK _ _ h1,stepsIn_wide.2 h2⟩
  | round l f tmps assign body=>exact h.elim
  | _=>exact h.elim
 | halt x w'=>cases x<;>exact h
theorem opsIn_round (hd:noDefer ops=true)(hq:¬LetsOut Q):∀ (l:List Nat) (a:Act) (w:World),wpOps P ops Q l a w→wpOpsIn (Fence.wide.inRound lp) n P ops Q l a w
 | [],_,_,h=>h
 | i::rest,a,w,h=>by
  unfold wpOps at h;unfold wpOpsIn
  cases ho:ops[i]? with
  | none=>
   rw[ho]at h;exact opsIn_round hd hq rest a w h
  | some o=>
   rw[ho]at h;dsimp only at h ⊢
   by_cases hw:Region.wanted o (yielded ops a.tmps)=true
   ·rw[if_pos hw]at h ⊢
    rcases h with h|h
    ·refine⟨fun _ _=>trivial,?_⟩;rw[show(Fence.wide.inRound lp).round=some lp from rfl,Oper.semAt_some lp _ _ (noDefer_spec hd ho)];exact upon_round (fun a w h=>opsIn_round hd hq rest a w h) _ h
    ·exact absurd h.2 hq
   ·rw[if_neg hw]at h ⊢;exact⟨fun _ _=>trivial,opsIn_round hd hq rest _ w h⟩
theorem round_held {S:World→Prop}{id:Nat}{a:Act}{w:World}(hm:P.follows .mixedOrders=true)(hd:noDefer ops=true)(hS:S w.drew)
  (h:S w.drew→wpAnyH P .any ops (Only Q) S ops.size (Array.replicate ops.size false) a w.drew):(Code.region id ops true).wpIn (Fence.wide.inRound lp) n P Q a w:=by
 refine wpIn_mono (Q:=Only Q) (wpIn_region_draw fun t=> ?_) Only.imp;simp only[Region.schedule,hm,Bool.true_or,if_true];exact opsIn_round hd Only.out _ _ _ (wpAny_sound ops.size t _ a _ (wpAny_of_held _ _ _ _ (h hS)))
end Go.Proofs.YtjkmahmoclobmaaGreat.base
namespace Go.Proofs.YtjkmahmoclobmaaGreat.sc
set_option linter.unusedSimpArgs false
set_option linter.unusedVariables false
open Go.RowKit mem base disk geom owns
open record (Rc RcIn RcAt put5 put5_kept cell5)
open item (It Items)
abbrev Wd:=List Nat→List (Ps×Rc)→List Nat→World→Prop
def Grows (N:Wd):Prop:=∀ I J pre C W,N I pre C W→(∀ y∈J,y∈I∨W.heap.size≤y)→N J pre C W
def Puts (N:Wd):Prop:=∀ I pre C W (i:Nat) (o o':Obj),N I pre C W→W.heap[i]? = some o→o.isCells=false→i∉C→N I pre C (W.putObj i o')
theorem ofSeg_two (dv:Option Addr)(s l r q a:Int):(ofSeg dv s l r q a).2=(ofSeg none s l r q a).2:=by
 unfold ofSeg
 split<;>rfl
theorem yield_level {m m':Nat}{P:Program}{l:Nat}{args:Array Value}{W:World}{R:Ending→World→Prop}(h:YieldAt Fence.wide m P l args W R):YieldAt Fence.wide m' P l args W R:=by
 obtain⟨fn,tmps,assign,body,h1,h2⟩:=h;exact⟨fn,tmps,assign,body,h1,h2.1,fun c cs _=>h2.2 c cs (room_wide _)⟩
structure Sb where
 (b3 b4 b5 b6 b7 b8 b9:Nat)
 ex:List Nat
def Sb.all (B:Sb):List Nat:=[B.b3,B.b4,B.b5,B.b6,B.b7,B.b8,B.b9]
def Sb.turned (B:Sb)(c:Nat):List Nat:=B.b4::B.b9::B.b6::B.b7::c::B.ex

section
variable (B:Sb)(lp c d gp x Z:Nat)(F C0:List Nat)(W0:World)(D:Dk)(b s l r q:Int)(fr:Ps)
structure SegW (Is:List Nat)(Cs:List Nat)(W:World)(C:List Nat)(at_:Ps)(on:Bool)(en:Ps)(er:Int):Prop where
 cs:Cs=B.turned c++C
 x3:Blk W B.b3 65 #[.pointer (some ⟨c,0,none⟩)]
 x4:Blk W B.b4 24 #[.int .i64 at_.s,.int .i64 at_.o,.int .i64 at_.l,.int .i64 at_.v,.int .i64 at_.m]
 x5:Blk W B.b5 238 #[.func (.yield lp) #[] #[]]
 x6:Blk W B.b6 24 #[.int .i64 0,.int .i64 0,.int .i64 0,.int .i64 0,.int .i64 0]
 x7:Blk W B.b7 4 #[.bool false]
 x8:Blk W B.b8 49 #[.pointer (some ⟨x,0,none⟩)]
 x9:Blk W B.b9 4 #[.bool on]
 cc:CcAt W c d gp fr en er
 geo:GAt W gp b s l r q
 disk:VD W F d D
 sub:∀ y∈C,y∈C0∨Z≤y
 kept:Kept (c::C0) W0 W
 isn:∀ y∈Is,Z≤y∧y∉B.all
 ap:∀ y,(y∈B.all∨y=c∨y=gp∨y∈F)→y∉C
end
structure Old (B:Sb)(c gp x Z:Nat)(F:List Nat):Prop where
 oc:c<Z
 ogp:gp<Z
 of:∀ y∈F,y<Z
 ox:Z≤x
 oba:∀ y∈B.all,Z≤y
 obx:x∉B.all
 ocg:c≠gp
 ocf:c∉F
 oex:∀ y∈B.ex,y<Z
section
variable {B:Sb}{lp c d gp x Z:Nat}{F C0:List Nat}{W0:World}{D:Dk}{b s l r q:Int}{fr:Ps}{Is:List Nat}{Cs:List Nat}{W W':World}{C:List Nat}{at_:Ps}{on:Bool}{en:Ps}{er:Int}
theorem Sb.mem (B:Sb):B.b3∈B.all∧B.b4∈B.all∧B.b5∈B.all∧B.b6∈B.all∧B.b7∈B.all∧B.b8∈B.all∧B.b9∈B.all:=by
 unfold Sb.all;simp
theorem SegW.keep (h:SegW B lp c d gp x Z F C0 W0 D b s l r q fr Is Cs W C at_ on en er){S:List Nat}(k:Kept S W W')(hS:∀ y∈S,y∉B.all∧y≠c∧y≠gp∧y∉F)(hs:∀ y∈S,y∈C∨W0.heap.size≤y)(hZ:W0.heap.size=Z):SegW B lp c d gp x Z F C0 W0 D b s l r q fr Is Cs W' C at_ on en er:=by
 obtain⟨m3,m4,m5,m6,m7,m8,m9⟩:=B.mem;have hB:∀ y∈B.all,y∉S:=fun y hy hm=>(hS y hm).1 hy
 exact⟨h.cs,k.blk h.x3 (hB _ m3),k.blk h.x4 (hB _ m4),k.blk h.x5 (hB _ m5),k.blk h.x6 (hB _ m6),k.blk h.x7 (hB _ m7),k.blk h.x8 (hB _ m8),k.blk h.x9 (hB _ m9),h.cc.kept k (fun hm=>(hS _ hm).2.1 rfl),h.geo.kept k (fun hm=>(hS _ hm).2.2.1 rfl),h.disk.kept k (fun y hy hm=>(hS _ hm).2.2.2 hy),h.sub,
  h.kept.trans k (fun y hy=>(hs y hy).elim (fun h1=>(h.sub y h1).imp (fun h2=>by simp [h2]) (fun h2=>by omega)) .inr),h.isn,h.ap⟩
theorem SegW.abide (h:SegW B lp c d gp x Z F C0 W0 D b s l r q fr Is Cs W C at_ on en er)(o:Old B c gp x Z F)(hZ:W0.heap.size=Z){S:List Nat}(k:Kept S W W')(hS:∀ y∈S,y∈Is):SegW B lp c d gp x Z F C0 W0 D b s l r q fr Is Cs W' C at_ on en er:=
 h.keep k (fun y hy=>by
  obtain⟨h1,h2⟩:=h.isn y (hS y hy)
  exact⟨h2,fun e=>by have:=o.oc;omega,fun e=>by have:=o.ogp;omega,fun hm=>by have:=o.of y hm;omega⟩) (fun y hy=> .inr (by have:=(h.isn y (hS y hy)).1;omega)) hZ
theorem SegW.client (h:SegW B lp c d gp x Z F C0 W0 D b s l r q fr Is Cs W C at_ on en er)(hZ:W0.heap.size=Z){C':List Nat}(k:Kept C W W')(hC:∀ y∈C',y∈C∨W.heap.size≤y)(hlt:∀ y,(y∈B.all∨y=c∨y=gp∨y∈F)→y<W.heap.size):SegW B lp c d gp x Z F C0 W0 D b s l r q fr Is (B.turned c++C') W' C' at_ on en er:=by
 have h1:=h.keep k (fun y hy=>⟨fun hm=>h.ap y (.inl hm) hy,fun hm=>h.ap y (.inr (.inl hm)) hy,fun hm=>h.ap y (.inr (.inr (.inl hm))) hy,fun hm=>h.ap y (.inr (.inr (.inr hm))) hy⟩) (fun y hy=> .inl hy) hZ
 exact⟨rfl,h1.x3,h1.x4,h1.x5,h1.x6,h1.x7,h1.x8,h1.x9,h1.cc,h1.geo,h1.disk,fun y hy=>(hC y hy).elim (h.sub y) (fun h2=> .inr (by have:=h.kept.size;omega)),h1.kept,h1.isn,
  fun y hy hm=>(hC y hm).elim (h.ap y hy) (fun h2=>by have:=hlt y hy;omega)⟩
theorem SegW.lts (h:SegW B lp c d gp x Z F C0 W0 D b s l r q fr Is Cs W C at_ on en er)(o:Old B c gp x Z F)(hZ:W0.heap.size=Z):∀ y,(y∈B.all∨y=c∨y=gp∨y∈F)→y<W.heap.size:=by
 have hk:=h.kept.size;rintro y (hy|rfl|rfl|hy)
 ·unfold Sb.all at hy;simp at hy
  rcases hy with rfl|rfl|rfl|rfl|rfl|rfl|rfl
  ·exact h.x3.lt
  ·exact h.x4.lt
  ·exact h.x5.lt
  ·exact h.x6.lt
  ·exact h.x7.lt
  ·exact h.x8.lt
  ·exact h.x9.lt
 ·exact h.cc.lt
 ·have:=o.ogp;omega
 ·have:=o.of y hy;omega
end
def SegN (N:Wd)(B:Sb)(lp c d gp x Z:Nat)(F C0:List Nat)(W0:World)(D:Dk)(b s l r q:Int)(fr p:Ps)(a z:Int)(pre0:List (Ps×Rc))(Is:List Nat)(pre:List (Ps×Rc))(Cs:List Nat)(W:World):Prop:=
 ∃ C at_ on en er,SegW B lp c d gp x Z F C0 W0 D b s l r q fr Is Cs W C at_ on en er∧(Stand D a z s p pre at_ on∧(pre≠[]→en=at_∧er=0))∧N (Is++B.turned c) (pre0++pre) C W
def SegX (Nx:Wd)(B:Sb)(lp c d gp x Z:Nat)(F C0:List Nat)(W0:World)(D:Dk)(b s l r q:Int)(fr p:Ps)(a z:Int)(pre0 L:List (Ps×Rc))(code:Code)(Is:List Nat)(pre:List (Ps×Rc))(Cs:List Nat)(W:World):Prop:=
 code= .ret∧∃ C at_ on en er,SegW B lp c d gp x Z F C0 W0 D b s l r q fr Is Cs W C at_ on en er∧(Stand D a z s p pre at_ on∧(pre≠[]→en=at_∧er=0))∧(pre≠[]∧pre <+: L)∧Nx (Is++B.turned c) (pre0++pre) C W
section
variable {N Nx:Wd}{B:Sb}{lp c d gp x Z:Nat}{F C0:List Nat}{W0:World}{D:Dk}{b s l r q:Int}{fr p:Ps}{a z:Int}{pre0 L:List (Ps×Rc)}
theorem SegN.abides (hN:Abides N)(o:Old B c gp x Z F)(hZ:W0.heap.size=Z):Abides (SegN N B lp c d gp x Z F C0 W0 D b s l r q fr p a z pre0):=fun I pre Cs W W' S ⟨C,at_,on,en,er,h,hs,hn⟩ k hS=>
 ⟨C,at_,on,en,er,h.abide o hZ k hS,hs,hN _ _ _ _ _ _ hn k (fun y hy=>List.mem_append_left _ (hS y hy))⟩
theorem SegX.abides (hN:Abides Nx)(o:Old B c gp x Z F)(hZ:W0.heap.size=Z)(code:Code):Abides (SegX Nx B lp c d gp x Z F C0 W0 D b s l r q fr p a z pre0 L code):=fun I pre Cs W W' S ⟨h0,C,at_,on,en,er,h,hs,h1,hn⟩ k hS=>
 ⟨h0,C,at_,on,en,er,h.abide o hZ k hS,hs,h1,hN _ _ _ _ _ _ hn k (fun y hy=>List.mem_append_left _ (hS y hy))⟩
theorem SegN.lt (hC:∀ I pre C W,N I pre C W→∀ y∈C,y<W.heap.size)(o:Old B c gp x Z F)(hZ:W0.heap.size=Z):∀ I pre Cs W,SegN N B lp c d gp x Z F C0 W0 D b s l r q fr p a z pre0 I pre Cs W→∀ y∈Cs,y<W.heap.size:=fun I pre Cs W ⟨C,at_,on,en,er,h,hs,hn⟩ y hy=>by
 rw[h.cs]at hy
 rcases List.mem_append.1 hy with hy|hy
 ·by_cases hx:y∈B.ex
  ·have h1:=o.oex y hx;have h2:=h.kept.size
   omega
  refine h.lts o hZ y ?_;unfold Sb.turned at hy;unfold Sb.all
  simp [hx]at hy ⊢
  rcases hy with rfl|rfl|rfl|rfl|rfl<;>simp
 ·exact hC _ _ _ _ hn y hy
end
theorem calls_round {m lp:Nat}{P:Program}{f:FuncId}{args:Array Value}{w:World}{R:Ending→World→Prop}(h:Calls P f args w R):CallsIn (Fence.wide.inRound lp) m P f args w R:=
 (callsIn_wide.2 h:CallsIn Fence.wide m P f args w R)
theorem round_in {m m' lp l:Nat}{P:Program}{f:FuncId}{tmps:Array Value}{assign body:Code}{w:World}{R:Ending→World→Prop}(h:RoundIn Fence.wide m P l f tmps assign body w R):RoundIn (Fence.wide.inRound lp) m' P l f tmps assign body w R:=
 ⟨h.1,fun c cs _=>h.2 c cs (room_wide _)⟩
theorem followed_eq {D:Dk}{a z s l r q:Int}{p at_ pk:Ps}{pre:List (Ps×Rc)}{on:Bool}(hst:Stand D a z s p pre at_ on){L:List (Ps×Rc)}{E:Ps}{err:Int}(h:scanOf D a z p false=(L,E,err)){R:Rc}(hp:pre++[(pk,R)] <+: L)
  (ha:0<z→a=segAt s l r q p.s):followedOf D s l r q at_=pk:=by
 obtain⟨h1,h2⟩:=hst.next h hp;unfold followedOf
 by_cases ho:at_.o=0
 ·rw[if_pos ho];obtain⟨rfl,h3⟩:=h2 ho;unfold start at h3;rw[if_neg (by simp [ho])]at h3
  split at h3
  ·cases h3
  ·rename_i hz
   have ha':=ha (by omega)
   split at h3
   ·rename_i h4
    injection h3 with h3;obtain⟨h5,h6⟩:=h4
    rcases h6 with h6|h6
    ·cases h6
    unfold hd.fits at h6;simp at h6;rw[←h3,←ha',h6.2.2.1,h6.2.2.2.1]
   ·cases h3
 ·rw[if_neg ho]
  exact(h1 ho).symm
section
variable {B:Sb}{lp c d gp x Z:Nat}{F C0:List Nat}{W0:World}{D:Dk}{b s l r q:Int}{fr:Ps}{Is:List Nat}{Cs:List Nat}{W W':World}{C:List Nat}{at_:Ps}{on:Bool}{en:Ps}{er:Int}
theorem SegW.place (h:SegW B lp c d gp x Z F C0 W0 D b s l r q fr Is Cs W C at_ on en er)(o:Old B c gp x Z F)(hZ:W0.heap.size=Z)(hd4:B.b4∉[B.b3,B.b5,B.b6,B.b7,B.b8])(hd9:B.b9∉[B.b3,B.b5,B.b6,B.b7,B.b8])(k:Kept [B.b4,B.b9] W W'){at':Ps}{on':Bool}
  (x4:Blk W' B.b4 24 #[.int .i64 at'.s,.int .i64 at'.o,.int .i64 at'.l,.int .i64 at'.v,.int .i64 at'.m]) (x9:Blk W' B.b9 4 #[.bool on']):
  SegW B lp c d gp x Z F C0 W0 D b s l r q fr Is Cs W' C at' on' en er:=by
 obtain⟨m3,m4,m5,m6,m7,m8,m9⟩:=B.mem;simp at hd4 hd9
 have hn:∀ i,(i=B.b3∨i=B.b5∨i=B.b6∨i=B.b7∨i=B.b8∨i=c∨i=gp∨i∈F)→i∉[B.b4,B.b9]:=fun i hi hm=>by
  have z4:=o.oba _ m4;have z9:=o.oba _ m9
  have:=o.oc
  have:=o.ogp
  simp at hm
  rcases hi with hi|hi|hi|hi|hi|hi|hi|hi
  ·subst hi;omega
  ·subst hi;omega
  ·subst hi;omega
  ·subst hi;omega
  ·subst hi;omega
  ·omega
  ·omega
  ·have:=o.of i hi;omega
 exact⟨h.cs,k.blk h.x3 (hn _ (by simp)),x4,k.blk h.x5 (hn _ (by simp)),k.blk h.x6 (hn _ (by simp)),k.blk h.x7 (hn _ (by simp)),k.blk h.x8 (hn _ (by simp)),x9,h.cc.kept k (hn _ (by simp)),h.geo.kept k (hn _ (by simp)),h.disk.kept k (fun i hi=>hn _ (by simp [hi])),h.sub,
  h.kept.trans k (fun i hi=> .inr (by simp at hi;rcases hi with rfl|rfl;exact hZ▸o.oba _ m4;exact hZ▸o.oba _ m9)),h.isn,h.ap⟩
theorem SegW.res (h:SegW B lp c d gp x Z F C0 W0 D b s l r q fr Is Cs W C at_ on en er)(o:Old B c gp x Z F)(hZ:W0.heap.size=Z)(hd6:B.b6∉[B.b3,B.b4,B.b5,B.b8,B.b9])(hd7:B.b7∉[B.b3,B.b4,B.b5,B.b8,B.b9])(k:Kept [B.b6,B.b7] W W')
  (x6:Blk W' B.b6 24 #[.int .i64 0,.int .i64 0,.int .i64 0,.int .i64 0,.int .i64 0]) (x7:Blk W' B.b7 4 #[.bool false]):
  SegW B lp c d gp x Z F C0 W0 D b s l r q fr Is Cs W' C at_ on en er:=by
 obtain⟨m3,m4,m5,m6,m7,m8,m9⟩:=B.mem;simp at hd6 hd7
 have hn:∀ i,(i=B.b3∨i=B.b5∨i=B.b4∨i=B.b9∨i=B.b8∨i=c∨i=gp∨i∈F)→i∉[B.b6,B.b7]:=fun i hi hm=>by
  have z4:=o.oba _ m6;have z9:=o.oba _ m7
  have:=o.oc
  have:=o.ogp
  simp at hm
  rcases hi with hi|hi|hi|hi|hi|hi|hi|hi
  ·subst hi;omega
  ·subst hi;omega
  ·subst hi;omega
  ·subst hi;omega
  ·subst hi;omega
  ·omega
  ·omega
  ·have:=o.of i hi;omega
 exact⟨h.cs,k.blk h.x3 (hn _ (by simp)),k.blk h.x4 (hn _ (by simp)),k.blk h.x5 (hn _ (by simp)),x6,x7,k.blk h.x8 (hn _ (by simp)),k.blk h.x9 (hn _ (by simp)),h.cc.kept k (hn _ (by simp)),h.geo.kept k (hn _ (by simp)),h.disk.kept k (fun i hi=>hn _ (by simp [hi])),h.sub,
  h.kept.trans k (fun i hi=> .inr (by simp at hi;rcases hi with rfl|rfl;exact hZ▸o.oba _ m6;exact hZ▸o.oba _ m7)),h.isn,h.ap⟩
theorem SegW.ends (h:SegW B lp c d gp x Z F C0 W0 D b s l r q fr Is Cs W C at_ on en er)(o:Old B c gp x Z F)(k:Kept [c] W W'){en':Ps}{er':Int}(cc:CcAt W' c d gp fr en' er'):
  SegW B lp c d gp x Z F C0 W0 D b s l r q fr Is Cs W' C at_ on en' er':=by
 obtain⟨m3,m4,m5,m6,m7,m8,m9⟩:=B.mem
 have hn:∀ i,i∈B.all→i∉[c]:=fun i hi hm=>by
  have:=o.oba _ hi
  have:=o.oc
  simp at hm
  omega
 exact⟨h.cs,k.blk h.x3 (hn _ m3),k.blk h.x4 (hn _ m4),k.blk h.x5 (hn _ m5),k.blk h.x6 (hn _ m6),k.blk h.x7 (hn _ m7),k.blk h.x8 (hn _ m8),k.blk h.x9 (hn _ m9),cc,h.geo.kept k (by simpa using o.ocg.symm),h.disk.kept k (fun i hi hm=>by simp at hm;subst hm;exact o.ocf hi),h.sub,
  h.kept.trans k (fun i hi=> .inl (by simp at hi;simp [hi])),h.isn,h.ap⟩
end
end Go.Proofs.YtjkmahmoclobmaaGreat.sc
