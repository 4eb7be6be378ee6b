import Derived.Test.YtjkmahmoclobmaaGreatYChainRecs
namespace Go.Proofs.YtjkmahmoclobmaaGreat.sc
set_option linter.unusedSimpArgs false
set_option linter.unusedVariables false
open Go.RowKit mem
open record (Rc RcIn)
section
variable {P:Program}{n:Nat}
theorem range_chain {g:Operand}{ps:Array Tmp}{assign body:Code}{Q:Exit→Act→World→Prop}{a:Act}{w:World}(h1:1≤n){gf:Nat}{lb:Array Value}
  (hg:a.eval g= .func (.func gf) #[] lb) (eg:∀ args w,(callFunc gf args).run P w= .ok (.enter gf args) w) (hps:ps.size=2)
  (l:List (Ps×Rc)) (I0:List Nat→World→Prop) (C0:List Nat) (G:Option (List (Ps×Rc))→World→Prop) (N:List Nat→List (Ps×Rc)→List Nat→World→Prop) (Nx:Code→List Nat→List (Ps×Rc)→List Nat→World→Prop) (XX:List Nat)
  (hN:Abides N) (hNx:∀ c,Abides (Nx c)) (hGr:Grows N) (hGrx:∀ c,Grows (Nx c)) (hPu:Puts N) (hPux:∀ c,Puts (Nx c)) (hC:∀ I pre C W,N I pre C W→∀ y∈C,y<W.heap.size)
  (hG:∀ b W i (o o':Obj),G b W→w.heap.size≤i→W.heap[i]? = some o→o.isCells=false→G b (W.putObj i o'))
  (hseq:∀ (lp:Nat) (J Jx:List Nat→List (Ps×Rc)→List Nat→World→Prop),Abides J→Abides Jx→Grows J→Grows Jx→Puts J→Puts Jx→(∀ I pre C W,J I pre C W→∀ y∈C,y<W.heap.size)→
   (∀ I pre C W pk R L m c A k d,J I pre C W→pre++[(pk,R)] <+: l→RcIn W (I++C++XX) L m A k R→(∀ y∈I,y<W.heap.size)→YieldAt Fence.wide (n-1-1) P lp #[pk.val,recVal R L m c A k d] W fun e W'=>
    ∃ C',(∀ y∈C',y∈C∨W.heap.size≤y)∧Kept C W W'∧((e= .returned (.bool true)∧J I (pre++[(pk,R)]) C' W')∨(e= .returned (.bool false)∧Jx I (pre++[(pk,R)]) C' W')))→
   ∀ W,Kept [] w W→w.heap.size+1<W.heap.size→(∀ I,I0 I W→J I [] ((w.heap.size+1)::w.heap.size::C0) W)→CallsIn Fence.wide (n-1) P gf (#[.func (.yield lp) #[] #[]]++lb) W fun e W'=>(∃ v,e= .returned v)∧∃ I C',(J I l C' W'∧G none W')∨(∃ pre,Jx I pre C' W'∧G (some pre) W'))
  (hI0:∀ I W,Kept [] w W→w.heap.size+1<W.heap.size→I0 I W→w.heap.size∉I∧w.heap.size+1∉I) (hC0:∀ y∈C0,y<w.heap.size) (h0:∀ I W,Kept [] w W→w.heap.size+1<W.heap.size→I0 I W→N ((w.heap.size+1)::I) [] C0 W)
  (hround:∀ (lp:Nat) (I:List Nat) (pre:List (Ps×Rc)) (C:List Nat) (pk:Ps) (R:Rc) (L:Option Addr) (m c:Nat) (A:Option Addr) (k d:Nat) (W:World) (K:Act→World→Prop),N I pre C W→pre++[(pk,R)] <+: l→RcIn W (I++C++XX) L m A k R→(∀ y∈I,y<W.heap.size)→w.heap.size<lp→lp∈I→lp<W.heap.size→
   (∀ a' W1 C1,(∀ y∈C1,y∈C∨W.heap.size≤y)→Kept [] W W1→(∀ W2,Kept [lp] W1 W2→body.wpIn (Fence.wide.inRound lp) (n-1-1) P (RoundPost I C1 (pre++[(pk,R)]) N Nx W2) a' W2)→K a' W1)→
   assign.wpIn (Fence.wide.inRound lp) (n-1-1) P (Exit.then K (fun _ _ _=>False)) {tmps:=(ps.zip #[Value.agg #[.int .i64 pk.s,.int .i64 pk.o,.int .i64 pk.l,.int .i64 pk.v,.int .i64 pk.m],recVal R L m c A k d]).foldl (fun t (p,v)=>t.setIfInBounds p v) a.tmps,defers:=[]} W)
  (hdone:∀ (D:Nat) (C:List Nat) (W:World),w.heap.size≤D→(∃ I,N I l C W)→G none W→D∉C→W.heap[D]? = some (.deferred (some []))→Q .normal {a with defers:={target:= .collected D,args:=#[]}::a.defers} W)
  (hstop:∀ (D:Nat) (C:List Nat) (c:Code) (pre:List (Ps×Rc)) (W:World),w.heap.size≤D→(∃ I,Nx c I pre C W)→G (some pre) W→D∉C→W.heap[D]? = some (.deferred (some []))→c.wpIn Fence.wide n P Q {a with defers:={target:= .collected D,args:=#[]}::a.defers} W):
  (Code.rangeFunc g ps assign body).wpIn Fence.wide n P Q a w:=by
 refine wpIn_rangeFunc fun fn hfn=> ?_;obtain⟨D,hD⟩:∃ D,w.heap.size=D:=⟨_,rfl⟩;obtain⟨rc,hrc'⟩:∃ rc:LoopState→Option Code→Loop,rc=fun st pe=>{state:=st,pending:=pe,fn,tmps:=a.tmps,params:=ps,assign,body,defers:=D}:=⟨_,rfl⟩
 have e1:(Instr.enterLoop fn a.tmps ps assign body none).run P w= .ok (D+1,[{target:= .collected D,args:=#[]}]) ((w.alloc (.deferred (some []))).alloc (.loop (rc .ready none))):=by
  rw[run_enterLoop_outer,hrc',hD]
 obtain⟨W1,hW1⟩:∃ W1,(w.alloc (.deferred (some []))).alloc (.loop (rc .ready none))=W1:=⟨_,rfl⟩
 have hk1:Kept [] w W1:=by rw[←hW1];exact((Kept.refl [] w).alloc _).alloc _
 rw[hW1]at e1
 have r1:W1.heap[D+1]? = some (.loop (rc .ready none)):=by
  have:=World.alloc_heap_new (w.alloc (.deferred (some []))) (.loop (rc .ready none))
  rwa [World.size_alloc,hW1,hD]at this
 have d1:W1.heap[D]? = some (.deferred (some [])):=by
  rw[←hW1,←hD]
  exact(Below.heap_alloc _ _ _ (by simp)).trans (World.alloc_heap_new w _)
 have hs1:D+1<W1.heap.size:=(Array.getElem?_eq_some_iff.1 r1).1;refine⟨D+1,_,W1,{target:= .fn (.func gf) lb,args:=#[.func (.yield (D+1)) #[] #[]]},W1,gf,#[.func (.yield (D+1)) #[] #[]]++lb,W1,e1,?_,fun _ _=>trivial,?_,fun _=>h1,?_⟩
 ·simp only[resolve,hg]
  simp [go_sem]
 ·simp [invoke,go_sem,eg]
 have hx0:D∉C0∧D+1∉C0:=⟨fun hm=>by have:=hC0 _ hm;omega,fun hm=>by have:=hC0 _ hm;omega⟩
 refine(hseq (D+1)
  (fun I pre C W=>∃ Cb,C=(D+1)::D::Cb∧N ((D+1)::I) pre Cb W∧D+1∉I∧D∉I∧W.heap[D+1]? = some (.loop (rc .ready none))∧W.heap[D]? = some (.deferred (some []))∧D∉Cb∧D+1∉Cb)
  (fun I pre C W=>∃ Cb c,C=(D+1)::D::Cb∧Nx c ((D+1)::I) pre Cb W∧D+1∉I∧D∉I∧W.heap[D+1]? = some (.loop (rc .done (some c)))∧W.heap[D]? = some (.deferred (some []))∧D∉Cb∧D+1∉Cb)
  ?_ ?_ ?_ ?_ ?_ ?_ ?_ ?_ W1 hk1 (by rw[hD];exact hs1) (fun I hI=>⟨C0,by rw[hD],by have:=h0 I W1 hk1 (by rw[hD];exact hs1) hI;rw[hD]at this;exact this,(by have:=(hI0 I W1 hk1 (by rw[hD];exact hs1) hI).2;rw[hD]at this;exact this),(by have:=(hI0 I W1 hk1 (by rw[hD];exact hs1) hI).1;rw[hD]at this;exact this),r1,d1,hx0⟩)).mono ?_
 ·rintro I pre C W W' S ⟨Cb,rfl,hn,i1,i0,hr,hd,hx⟩ hk hS;exact⟨Cb,rfl,hN _ _ _ _ _ _ hn hk (fun y hy=>by simp [hS y hy]),i1,i0,(hk.block _ (Array.getElem?_eq_some_iff.1 hr).1 (fun hm=>i1 (hS _ hm))).trans hr,(hk.block _ (Array.getElem?_eq_some_iff.1 hd).1 (fun hm=>i0 (hS _ hm))).trans hd,hx⟩
 ·rintro I pre C W W' S ⟨Cb,c,rfl,hn,i1,i0,hr,hd,hx⟩ hk hS;exact⟨Cb,c,rfl,hNx c _ _ _ _ _ _ hn hk (fun y hy=>by simp [hS y hy]),i1,i0,(hk.block _ (Array.getElem?_eq_some_iff.1 hr).1 (fun hm=>i1 (hS _ hm))).trans hr,(hk.block _ (Array.getElem?_eq_some_iff.1 hd).1 (fun hm=>i0 (hS _ hm))).trans hd,hx⟩
 ·rintro I I' pre C W ⟨Cb,rfl,hn,i1,i0,hr,hd,hx⟩ hI;have t1:=(Array.getElem?_eq_some_iff.1 hr).1;exact⟨Cb,rfl,hGr _ _ _ _ _ hn (fun y hy=>(List.mem_cons.1 hy).elim (fun e=> .inl (by simp [e])) (fun h=>(hI y h).imp (fun h=>by simp [h]) id)),fun hm=>(hI _ hm).elim i1 (fun h=>by omega),fun hm=>(hI _ hm).elim i0 (fun h=>by omega),hr,hd,hx⟩
 ·rintro I I' pre C W ⟨Cb,c,rfl,hn,i1,i0,hr,hd,hx⟩ hI;have t1:=(Array.getElem?_eq_some_iff.1 hr).1;exact⟨Cb,c,rfl,hGrx c _ _ _ _ _ hn (fun y hy=>(List.mem_cons.1 hy).elim (fun e=> .inl (by simp [e])) (fun h=>(hI y h).imp (fun h=>by simp [h]) id)),fun hm=>(hI _ hm).elim i1 (fun h=>by omega),fun hm=>(hI _ hm).elim i0 (fun h=>by omega),hr,hd,hx⟩
 ·rintro I pre C W i o o' ⟨Cb,rfl,hn,i1,i0,hr,hd,hx⟩ ho hc hi;simp only[List.mem_cons,not_or]at hi;exact⟨Cb,rfl,hPu _ _ _ _ _ _ _ hn ho hc hi.2.2,i1,i0,(World.putObj_heap_other (fun e=>hi.1 e.symm)).trans hr,(World.putObj_heap_other (fun e=>hi.2.1 e.symm)).trans hd,hx⟩
 ·rintro I pre C W i o o' ⟨Cb,c,rfl,hn,i1,i0,hr,hd,hx⟩ ho hc hi;simp only[List.mem_cons,not_or]at hi;exact⟨Cb,c,rfl,hPux c _ _ _ _ _ _ _ hn ho hc hi.2.2,i1,i0,(World.putObj_heap_other (fun e=>hi.1 e.symm)).trans hr,(World.putObj_heap_other (fun e=>hi.2.1 e.symm)).trans hd,hx⟩
 ·rintro I pre C W ⟨Cb,rfl,hn,i1,i0,hr,hd,hx⟩ y hy;have t1:=(Array.getElem?_eq_some_iff.1 hr).1;have t2:=(Array.getElem?_eq_some_iff.1 hd).1
  rcases List.mem_cons.1 hy with rfl|hy
  ·exact t1
  rcases List.mem_cons.1 hy with rfl|hy
  ·exact t2
  ·exact hC _ _ _ _ hn y hy
 ·rintro I pre C W pk R L m c A k d ⟨Cb,rfl,hn,i1,i0,hr,hd,hx⟩ hpre hrc hIl;have hlt:D+1<W.heap.size:=(Array.getElem?_eq_some_iff.1 hr).1;have hy:=run_yield (P:=P) (args:=#[pk.val,recVal R L m c A k d]) hr (by rw[hrc'];simp [hps]);rw[hrc']at hy;refine⟨fn,_,assign,body,hy,roundIn_of_wpIn hfn (hround _ ((D+1)::I) pre Cb pk R L m c A k d W _ hn hpre (hrc.less (fun i hi=>by simp at hi ⊢;rcases hi with h|h|h|h<;>simp [h])) (List.forall_mem_cons.2 ⟨hlt,hIl⟩) (by omega) (by simp) hlt ?_)⟩;intro a' Wa C1 hC1 hka hb;have ra:Wa.heap[D+1]? = some (.loop (rc .ready none)):=(hka.block _ hlt (by simp)).trans hr;have da:Wa.heap[D]? = some (.deferred (some [])):=(hka.block _ (by omega) (by simp)).trans hd;have hlta:D+1<Wa.heap.size:=(Array.getElem?_eq_some_iff.1 ra).1;have hx1:D+1∉C1∧D∉C1:=⟨fun hm=>(hC1 _ hm).elim hx.2 (fun h=>by omega),fun hm=>(hC1 _ hm).elim hx.1 (fun h=>by omega)⟩;refine⟨_,run_beginRound ra (by rw[hrc']),?_⟩;obtain⟨Wb,hWb⟩:∃ Wb,Wa.putObj (D+1) (.loop {rc .ready none with state:= .busy})=Wb:=⟨_,rfl⟩
  have hkb:Kept [D+1] Wa Wb:=by rw[←hWb];exact kept_put _ _ _
  have rb:Wb.heap[D+1]? = some (.loop {rc .ready none with state:= .busy}):=by rw[←hWb];exact World.putObj_heap_same hlta
  have db:Wb.heap[D]? = some (.deferred (some [])):=(hkb.block _ (by omega) (by simp)).trans da;rw[hWb]
  have hlast:∀ (jump:Option Code) (W3:World),Kept C1 Wb W3→(Instr.endRound (D+1) jump).run P W3= .ok (.bool jump.isNone) (W3.putObj (D+1) (.loop (rc (if jump.isNone then .ready else .done) jump)))∧
    (W3.putObj (D+1) (.loop (rc (if jump.isNone then .ready else .done) jump))).heap[D+1]? = some (.loop (rc (if jump.isNone then .ready else .done) jump))∧
    (W3.putObj (D+1) (.loop (rc (if jump.isNone then .ready else .done) jump))).heap[D]? = some (.deferred (some []))∧
    Kept ((D+1)::D::Cb) W (W3.putObj (D+1) (.loop (rc (if jump.isNone then .ready else .done) jump))):=fun jump W3 hk3=>by
   have r3:=(hk3.block _ (Array.getElem?_eq_some_iff.1 rb).1 hx1.1).trans rb;have d3:=(hk3.block _ (Array.getElem?_eq_some_iff.1 db).1 hx1.2).trans db;have he:=run_endRound (P:=P) jump r3;rw[hrc']at he;refine⟨by rw[hrc'];exact he,World.putObj_heap_same (Array.getElem?_eq_some_iff.1 r3).1,(World.putObj_heap_other (by omega)).trans d3,?_⟩;refine((((hka.mono (S':=(D+1)::D::Cb) (by simp)).trans hkb (by simp)).trans hk3 (fun i hi=> ?_)).trans (kept_put _ _ _) (by simp))
   rcases hC1 i hi with h|h
   ·exact .inl (by simp [h])
   ·exact .inr h
  have hCC:∀ (C':List Nat),(∀ y∈C',y∈C1∨Wb.heap.size≤y)→(∀ y∈(D+1)::D::C',y∈(D+1)::D::Cb∨W.heap.size≤y)∧D∉C'∧D+1∉C':=fun C' hC'=>by
   have hs:W.heap.size≤Wb.heap.size:=Nat.le_trans hka.size hkb.size;refine⟨fun y hy=> ?_,fun hm=>(hC' _ hm).elim hx1.2 (fun h=>by omega),fun hm=>(hC' _ hm).elim hx1.1 (fun h=>by omega)⟩
   rcases List.mem_cons.1 hy with rfl|hy
   ·exact .inl (by simp)
   rcases List.mem_cons.1 hy with rfl|hy
   ·exact .inl (by simp)
   rcases hC' y hy with h|h
   ·rcases hC1 y h with h|h
    ·exact .inl (by simp [h])
    ·exact .inr h
   ·exact .inr (by omega)
  refine wpIn_mono (hb Wb hkb) ?_;rintro e a3 W3 hp
  cases e with
  | normal=>
   obtain⟨C',hC',hk3,hn3⟩:=hp;obtain⟨he,r4,d4,hkk⟩:=hlast none W3 hk3;obtain⟨hc1,hc2⟩:=hCC C' hC';exact⟨_,_,he,(D+1)::D::C',hc1,hkk,.inl ⟨rfl,C',rfl,hN _ _ _ _ _ _ hn3 (kept_put _ _ _) (by simp),i1,i0,r4,d4,hc2⟩⟩
  | ret=>
   obtain⟨C',hC',hk3,hn3⟩:=hp;obtain⟨he,r4,d4,hkk⟩:=hlast (some .ret) W3 hk3;obtain⟨hc1,hc2⟩:=hCC C' hC';exact⟨_,_,he,(D+1)::D::C',hc1,hkk,.inr ⟨rfl,C',_,rfl,hNx _ _ _ _ _ _ _ hn3 (kept_put _ _ _) (by simp),i1,i0,r4,d4,hc2⟩⟩
  | exit i=>
   obtain⟨C',hC',hk3,hn3⟩:=hp;obtain⟨he,r4,d4,hkk⟩:=hlast (some (.exit i)) W3 hk3;obtain⟨hc1,hc2⟩:=hCC C' hC';exact⟨_,_,he,(D+1)::D::C',hc1,hkk,.inr ⟨rfl,C',_,rfl,hNx _ _ _ _ _ _ _ hn3 (kept_put _ _ _) (by simp),i1,i0,r4,d4,hc2⟩⟩
  | goto i=>
   obtain⟨C',hC',hk3,hn3⟩:=hp;obtain⟨he,r4,d4,hkk⟩:=hlast (some (.goto i)) W3 hk3;obtain⟨hc1,hc2⟩:=hCC C' hC';exact⟨_,_,he,(D+1)::D::C',hc1,hkk,.inr ⟨rfl,C',_,rfl,hNx _ _ _ _ _ _ _ hn3 (kept_put _ _ _) (by simp),i1,i0,r4,d4,hc2⟩⟩
  | panic ch=>exact hp.elim
  | outgrown=>exact hp.elim
 ·rintro e W2 ⟨⟨v,rfl⟩,I,C',(⟨⟨Cb,rfl,hn,i1,i0,hr,hd,hx⟩,hg⟩|⟨pre,⟨Cb,c,rfl,hn,i1,i0,hr,hd,hx⟩,hg⟩)⟩
  ·have he:=run_endLoop (P:=P) hr (by rw[hrc'];simp);exact⟨none,_,by rw[he,hrc'],hdone D Cb _ (by omega) ⟨_,hN _ _ _ _ _ _ hn (kept_put _ _ _) (by simp)⟩ (hG _ _ _ _ _ hg (by omega) hr rfl) hx.1 ((World.putObj_heap_other (by omega)).trans hd)⟩
  ·have he:=run_endLoop (P:=P) hr (by rw[hrc'];simp);exact⟨some c,_,by rw[he,hrc'],hstop D Cb c pre _ (by omega) ⟨_,hNx _ _ _ _ _ _ _ hn (kept_put _ _ _) (by simp)⟩ (hG _ _ _ _ _ hg (by omega) hr rfl) hx.1 ((World.putObj_heap_other (by omega)).trans hd)⟩
end
end Go.Proofs.YtjkmahmoclobmaaGreat.sc
