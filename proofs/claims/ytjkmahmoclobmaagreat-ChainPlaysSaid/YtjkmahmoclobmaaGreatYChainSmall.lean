import Derived.Test.YtjkmahmoclobmaaGreatYScanToldCore
namespace Go.Proofs.YtjkmahmoclobmaaGreat.sc
open Go.RowKit mem base disk geom
open record (Rc)
open item (It)
def nextItem (R:Rc):Option It:=R.its.find? fun i=>decide (i.k=7)
theorem nextItem_none {R:Rc}:nextItem R=none↔hasNext R=false:=by
 unfold nextItem hasNext;rw[List.find?_eq_none,List.any_eq_false]
theorem nextItem_some {R:Rc}{i:It}(h:nextItem R=some i):hasNext R=true∧i∈R.its∧i.k=7:=by
 have h1:=List.mem_of_find?_eq_some h;have h2:=List.find?_some h;exact⟨List.any_eq_true.2 ⟨i,h1,h2⟩,h1,of_decide_eq_true h2⟩
def stepOn (s:Int)(p:Ps)(R:Rc):Ps×Bool:=match nextItem R with
 | none=>(p,false)
 | some i=>if s≤i.v then(p,false)else(⟨i.v,0,p.l,p.v,p.m⟩,true)
theorem stepOn_none {s:Int}{p:Ps}{R:Rc}(h:hasNext R=false):stepOn s p R=(p,false):=by
 unfold stepOn;rw[nextItem_none.2 h]
theorem stepOn_on {s:Int}{p:Ps}{R:Rc}(h:(stepOn s p R).2=true):(stepOn s p R).1.o=0∧(stepOn s p R).1.l=p.l∧(stepOn s p R).1.v=p.v∧(stepOn s p R).1.m=p.m∧(stepOn s p R).1.s<s∧hasNext R=true:=by
 unfold stepOn at h ⊢
 split at h
 ·cases h
 ·rename_i i hi
  split at h
  ·cases h
  ·rename_i h1
   rw[if_neg h1];exact⟨rfl,rfl,rfl,rfl,by show i.v<s;omega,(nextItem_some hi).1⟩
theorem recs_place {D:Dk}{a z:Int}:∀ (f:Nat) (p:Ps) (pre:List (Ps×Rc)) (pk:Ps) (R:Rc),pre++[(pk,R)] <+: (recs D a z f p).1→
  (pre=[]∧pk=p)∨∃ pre' p' R' s',pre=pre'++[(p',R')]∧follow D a z p'=(some (R',s'),0)∧hasNext R'=false∧pk=behind p' R' s'
 | 0,p,pre,pk,R,h=>by
  have:=h.length_le
  simp [recs]at this
 | f+1,p,pre,pk,R,h=>by
  unfold recs at h
  rcases hf:follow D a z p with⟨o,e⟩
  rw[hf]at h
  cases o with
  | none=>
   have:=h.length_le
   simp at this
  | some y=>
   obtain⟨R0,s0⟩:=y;dsimp only at h
   by_cases hn:hasNext R0=true
   ·rw[if_pos hn]at h
    cases pre with
    | nil=>
     refine .inl ⟨rfl,?_⟩
     have:=List.prefix_cons_iff.1 h
     simp at h;exact h.1
    | cons x t=>
     have:=h.length_le
     simp at this
   ·rw[if_neg hn]at h
    cases pre with
    | nil=>
     simp at h;exact .inl ⟨rfl,h.1⟩
    | cons x t=>
     rw[List.cons_append,List.cons_prefix_cons]at h;obtain⟨hx,ht⟩:=h
     right
     have he:e=0:=by
      unfold follow at hf
      split at hf
      ·cases hf
      ·split at hf
       ·cases hf
       ·split at hf
        ·cases hf
        ·split at hf
         ·cases hf
         ·split at hf
          ·injection hf with _ h2;exact h2.symm
          ·cases hf
     rcases recs_place f _ t pk R ht with⟨rfl,hp⟩|⟨pre',p',R',s',rfl,h2,h3,h4⟩
     ·exact⟨[],p,R0,s0,by rw[hx];rfl,by rw[hf,he],by simpa using hn,hp⟩
     ·exact⟨x::pre',p',R',s',by simp,h2,h3,h4⟩
theorem scan_place {D:Dk}{a z:Int}{p:Ps}{hb:Bool}{l:List (Ps×Rc)}{E:Ps}{err:Int}(h:scanOf D a z p hb=(l,E,err)){pre:List (Ps×Rc)}{pk:Ps}{R:Rc}(hp:pre++[(pk,R)] <+: l):
  (pre=[]∧(start D a z p hb).1=some pk)∨∃ pre' p' R' s',pre=pre'++[(p',R')]∧follow D a z p'=(some (R',s'),0)∧hasNext R'=false∧pk=behind p' R' s':=by
 unfold scanOf at h
 rcases hs:start D a z p hb with⟨o,e⟩
 rw[hs]at h
 cases o with
 | none=>
  dsimp only at h;injection h with h1 _;rw[←h1]at hp
  have:=hp.length_le
  simp at this
 | some q=>
  dsimp only at h
  have hl:l=(recs D a z z.toNat q).1:=by rw[h]
  rw[hl]at hp
  rcases recs_place _ _ _ _ _ hp with⟨h1,h2⟩|h1
  ·exact .inl ⟨h1,by rw[h2]⟩
  ·exact .inr h1
theorem recs_end {D:Dk}{a z:Int}:∀ (f:Nat) (p:Ps) (pre:List (Ps×Rc)) (pk:Ps) (R:Rc),(recs D a z f p).1=pre++[(pk,R)]→
  ∃ s,follow D a z pk=(some (R,s),0)∧(recs D a z f p).2.1=behind pk R s∧(hasNext R=true→(recs D a z f p).2.2=0)
 | 0,p,pre,pk,R,h=>by simp [recs]at h
 | f+1,p,pre,pk,R,h=>by
  unfold recs at h ⊢
  rcases hf:follow D a z p with⟨o,e⟩
  rw[hf]at h
  cases o with
  | none=>simp at h
  | some y=>
   obtain⟨R0,s0⟩:=y
   have he:e=0:=by
    unfold follow at hf
    split at hf
    ·cases hf
    ·split at hf
     ·cases hf
     ·split at hf
      ·cases hf
      ·split at hf
       ·cases hf
       ·split at hf
        ·injection hf with _ h2;exact h2.symm
        ·cases hf
   dsimp only at h ⊢
   by_cases hn:hasNext R0=true
   ·rw[if_pos hn]at h ⊢
    have h1:pre=[]:=by
     cases pre with
     | nil=>rfl
     | cons x t=>
      have:=congrArg List.length h
      simp at this
    subst h1;simp at h;obtain⟨rfl,rfl⟩:=h;exact⟨s0,by rw[hf,he],rfl,fun _=>rfl⟩
   ·rw[if_neg hn]at h ⊢;dsimp only at h ⊢
    cases pre with
    | nil=>
     simp at h;obtain⟨⟨rfl,rfl⟩,h2⟩:=h;refine⟨s0,by rw[hf,he],?_,fun h3=>absurd h3 hn⟩
     cases f with
     | zero=>rfl
     | succ f=>
      unfold recs at h2 ⊢
      split at h2
      ·rename_i h5;rfl
      ·split at h2<;>cases h2
    | cons x t=>
     rw[List.cons_append]at h;injection h with h1 h2;exact recs_end f _ t pk R h2
theorem scan_end {D:Dk}{a z:Int}{p:Ps}{hb:Bool}{l:List (Ps×Rc)}{E:Ps}{err:Int}(h:scanOf D a z p hb=(l,E,err)){pre:List (Ps×Rc)}{pk:Ps}{R:Rc}(hp:l=pre++[(pk,R)]):
  ∃ s,follow D a z pk=(some (R,s),0)∧E=behind pk R s∧(hasNext R=true→err=0):=by
 unfold scanOf at h
 rcases hs:start D a z p hb with⟨o,e⟩
 rw[hs]at h
 cases o with
 | none=>
  dsimp only at h;injection h with h1 _;rw[←h1]at hp
  have:=congrArg List.length hp
  simp at this
 | some q=>
  dsimp only at h
  have hl:(recs D a z z.toNat q).1=pre++[(pk,R)]:=by rw[h];exact hp
  obtain⟨s,h1,h2,h3⟩:=recs_end _ _ _ _ _ hl;rw[h]at h2 h3;exact⟨s,h1,h2,h3⟩
inductive Stand (D:Dk) (a z s:Int) (p:Ps):List (Ps×Rc)→Ps→Bool→Prop where
 | nil:Stand D a z s p [] p false
 | snoc (pre:List (Ps×Rc)) (pk:Ps) (R:Rc) (sm:Int) (h:follow D a z pk=(some (R,sm),0)):Stand D a z s p (pre++[(pk,R)]) (stepOn s (behind pk R sm) R).1 (stepOn s (behind pk R sm) R).2
theorem Stand.next {D:Dk}{a z s:Int}{p at_:Ps}{pre:List (Ps×Rc)}{on:Bool}(hst:Stand D a z s p pre at_ on){l:List (Ps×Rc)}{E:Ps}{err:Int}(h:scanOf D a z p false=(l,E,err)){pk:Ps}{R:Rc}(hp:pre++[(pk,R)] <+: l):
  (at_.o≠0→pk=at_)∧(at_.o=0→at_=p∧(start D a z p false).1=some pk):=by
 rcases scan_place h hp with⟨rfl,h1⟩|⟨pre',p',R',s',rfl,h2,h3,h4⟩
 ·generalize hg:([]:List (Ps×Rc))=g at hst
  cases hst with
  | nil=>
   refine⟨fun ho=> ?_,fun ho=>⟨rfl,h1⟩⟩;unfold start at h1;rw[if_pos ho]at h1;injection h1 with h1;exact h1.symm
  | snoc pre2 pk2 R2 sm h2=>
   have:=congrArg List.length hg
   simp at this
 ·generalize hg:pre'++[(p',R')]=g at hst
  cases hst with
  | nil=>
   have:=congrArg List.length hg
   simp at this
  | snoc pre2 pk2 R2 sm h5=>
   obtain⟨rfl,h6⟩:=List.append_inj' hg rfl;injection h6 with h6 _;injection h6 with h6 h7;subst h6 h7;rw[h2]at h5;injection h5 with h5 _;injection h5 with h5;injection h5 with _ h5;subst h5;have hb:=(follow_in h2).1;rw[stepOn_none h3];refine⟨fun _=>h4,fun ho=> ?_⟩;exact absurd ho (by unfold behind lenOf;dsimp only;omega)
def segOf (D:Dk)(s l r q:Int)(p:Ps):List (Ps×Rc)×Ps×Int:=scanOf D (ofSeg none s l r q p.s).2.1 (ofSeg none s l r q p.s).2.2 p false
inductive Logs (D:Dk) (s l r q:Int):Ps→List (Ps×Rc)→Ps→Int→Prop where
 | last (p:Ps) (L:List (Ps×Rc)) (E:Ps) (err:Int) (at_:Ps) (h:segOf D s l r q p=(L,E,err)) (hs:Stand D (ofSeg none s l r q p.s).2.1 (ofSeg none s l r q p.s).2.2 s p L at_ false):Logs D s l r q p L E err
 | more (p:Ps) (L:List (Ps×Rc)) (E:Ps) (err:Int) (at_:Ps) (L2:List (Ps×Rc)) (E2:Ps) (err2:Int) (h:segOf D s l r q p=(L,E,err)) (hs:Stand D (ofSeg none s l r q p.s).2.1 (ofSeg none s l r q p.s).2.2 s p L at_ true)
   (h2:Logs D s l r q at_ L2 E2 err2):Logs D s l r q p (L++L2) E2 err2
theorem Stand.done {D:Dk}{a z s:Int}{p at_:Ps}{L:List (Ps×Rc)}{on:Bool}(hst:Stand D a z s p L at_ on){E:Ps}{err:Int}(h:scanOf D a z p false=(L,E,err)):on=true→err=0∧at_.l=E.l∧at_.o=0∧∃ pre pk R,L=pre++[(pk,R)]:=by
 intro hon
 cases hst with
 | nil=>cases hon
 | snoc pre pk R sm hf=>
  obtain⟨sm2,h1,h2,h3⟩:=scan_end h rfl;obtain⟨h4,h5,_,_,_,h6⟩:=stepOn_on hon;rw[hf]at h1;injection h1 with h1 _;injection h1 with h1;injection h1 with _ h1;subst h1;exact⟨h3 h6,by rw[h5,h2],h4,pre,pk,R,rfl⟩
theorem recs_num {D:Dk}(hD:D.ok){a z:Int}:∀ (f:Nat) (p:Ps),(recs D a z f p).2.1.l=p.l+(recs D a z f p).1.length∧(∀ (i:Nat) (y:Ps×Rc),(recs D a z f p).1[i]? = some y→y.2.l=p.l+i∧y.2.ok)
 | 0,p=>⟨by simp [recs],by simp [recs]⟩
 | f+1,p=>by
  unfold recs
  rcases hf:follow D a z p with⟨o,e⟩
  cases o with
  | none=>exact⟨by simp,by simp⟩
  | some y=>
   obtain⟨R0,s0⟩:=y;obtain⟨h1,_,_,h4,_⟩:=follow_ok hD hf
   have hl:R0.l=p.l:=by
    unfold fits at h4;simp at h4;exact h4.1
   dsimp only
   by_cases hn:hasNext R0=true
   ·rw[if_pos hn];refine⟨by simp [behind],fun i y hy=> ?_⟩
    cases i with
    | zero=>simp at hy;subst hy;exact⟨by simpa using hl,h1⟩
    | succ i=>simp at hy
   ·rw[if_neg hn];obtain⟨e1,e2⟩:=recs_num hD f (behind p R0 s0);refine⟨?_,fun i y hy=> ?_⟩
    ·dsimp only;rw[e1]
     simp [behind]
     omega
    ·cases i with
     | zero=>simp at hy;subst hy;exact⟨by simpa using hl,h1⟩
     | succ i=>
      obtain⟨e3,e4⟩:=e2 i y (by simpa using hy);refine⟨?_,e4⟩;rw[e3]
      simp [behind]
      omega
end Go.Proofs.YtjkmahmoclobmaaGreat.sc
set_option maxRecDepth 100000
namespace Go.Proofs.YtjkmahmoclobmaaGreat.sc
set_option linter.unusedSimpArgs false
open Go.RowKit mem base disk geom owns
open record (Rc RcIn RcAt put5 put5_kept cell5)
open item (It Items)
def CcAt (w:World)(c d gp:Nat)(p e:Ps)(er:Int):Prop:=
 Blk w c 165 #[.pointer (some ⟨d,0,none⟩),.pointer (some ⟨gp,0,none⟩),.int .i64 p.s,.int .i64 p.o,.int .i64 p.l,.int .i64 p.v,.int .i64 p.m,.int .i64 e.s,.int .i64 e.o,.int .i64 e.l,.int .i64 e.v,.int .i64 e.m,.int .i64 er]
section
variable {w w':World}{S:List Nat}{c d gp:Nat}{p e:Ps}{er:Int}
theorem CcAt.kept (h:CcAt w c d gp p e er)(k:Kept S w w')(hc:c∉S):CcAt w' c d gp p e er:=k.blk h hc
theorem CcAt.lt (h:CcAt w c d gp p e er):c<w.heap.size:=Blk.lt h
theorem CcAt.two (h:CcAt w c d gp p e er):w.cell? ⟨c,0,none⟩=some (.pointer (some ⟨d,0,none⟩))∧w.cell? ⟨c,1,none⟩=some (.pointer (some ⟨gp,0,none⟩)):=⟨Blk.cell h 0,Blk.cell h 1⟩
theorem CcAt.from_ (h:CcAt w c d gp p e er):w.cell? ⟨c,2,none⟩=some (.int .i64 p.s)∧w.cell? ⟨c,3,none⟩=some (.int .i64 p.o)∧w.cell? ⟨c,4,none⟩=some (.int .i64 p.l)∧w.cell? ⟨c,5,none⟩=some (.int .i64 p.v)∧w.cell? ⟨c,6,none⟩=some (.int .i64 p.m):=⟨Blk.cell h 2,Blk.cell h 3,Blk.cell h 4,Blk.cell h 5,Blk.cell h 6⟩
theorem CcAt.end_ (h:CcAt w c d gp p e er):w.cell? ⟨c,7,none⟩=some (.int .i64 e.s)∧w.cell? ⟨c,8,none⟩=some (.int .i64 e.o)∧w.cell? ⟨c,9,none⟩=some (.int .i64 e.l)∧w.cell? ⟨c,10,none⟩=some (.int .i64 e.v)∧w.cell? ⟨c,11,none⟩=some (.int .i64 e.m)∧w.cell? ⟨c,12,none⟩=some (.int .i64 er):=⟨Blk.cell h 7,Blk.cell h 8,Blk.cell h 9,Blk.cell h 10,Blk.cell h 11,Blk.cell h 12⟩
theorem CcAt.frozen (h:CcAt w c d gp p e er)(i:Nat):w.frozen? ⟨c,i,none⟩=false:=Blk.frozen h i
theorem CcAt.setEnd (h:CcAt w c d gp p e er)(y:Ps):CcAt (((((w.setCell ⟨c,7,none⟩ (.int .i64 y.s)).setCell ⟨c,8,none⟩ (.int .i64 y.o)).setCell ⟨c,9,none⟩ (.int .i64 y.l)).setCell ⟨c,10,none⟩ (.int .i64 y.v)).setCell ⟨c,11,none⟩ (.int .i64 y.m)) c d gp p y er:=
 Blk.set_ (Blk.set_ (Blk.set_ (Blk.set_ (Blk.set_ h 7 _) 8 _) 9 _) 10 _) 11 _
theorem CcAt.setErr (h:CcAt w c d gp p e er)(y:Int):CcAt (w.setCell ⟨c,12,none⟩ (.int .i64 y)) c d gp p e y:=Blk.set_ h 12 _
end
theorem cnew_any (d gp:Nat)(p:Ps)(w:World):
  Calls Tryz.prog 32 #[.pointer (some ⟨d,0,none⟩),.pointer (some ⟨gp,0,none⟩),p.val] w fun e w'=>∃ c,e= .returned (.pointer (some ⟨c,0,none⟩))∧w.heap.size≤c∧CcAt w' c d gp p p 0∧Kept [] w w':=by
 have hk0:=(Kept.refl [] w).alloc (.cells #[.int .i64 p.s,.int .i64 p.o,.int .i64 p.l,.int .i64 p.v,.int .i64 p.m] 24);have hb0:=Blk.new w 24 #[.int .i64 p.s,.int .i64 p.o,.int .i64 p.l,.int .i64 p.v,.int .i64 p.m];obtain⟨g,hg⟩:∃ g,w.heap.size=g:=⟨_,rfl⟩;rw[hg]at hb0;have HG:=hide (Nat.le_of_eq hg);obtain⟨w0,hw0⟩:∃ w0,w.alloc (.cells #[.int .i64 p.s,.int .i64 p.o,.int .i64 p.l,.int .i64 p.v,.int .i64 p.m] 24)=w0:=⟨_,rfl⟩;rw[hw0]at hb0 hk0;obtain⟨c0,c1,c2,c3,c4⟩:=cell5 hb0;have HK0:=hide hk0;have HX:=hide (show w.heap.size≤w0.heap.size from hk0.size);clear hk0 hb0;unfold Ps.val;go_enter Tryz.func32,Tryz.ntmps32;go_wp2;go_ret;refine⟨w0.heap.size,rfl,HX.out,Blk.new w0 _ _,HK0.out.alloc _⟩
theorem cnew_nil (P:Option Addr)(p:Ps)(w:World):
  Calls Tryz.prog 32 #[.pointer none,.pointer P,p.val] w fun e w'=>e= .returned (.pointer none)∧Kept [] w w':=by
 have HK:=hide ((Kept.refl [] w).alloc (.cells #[.int .i64 p.s,.int .i64 p.o,.int .i64 p.l,.int .i64 p.v,.int .i64 p.m] 24));unfold Ps.val;go_enter Tryz.func32,Tryz.ntmps32;go_wp2;go_ret;exact⟨rfl,HK.out⟩
theorem cend_any (c d gp:Nat)(p e:Ps)(er:Int)(w:World)(h:CcAt w c d gp p e er):
  Calls Tryz.prog 33 #[.pointer (some ⟨c,0,none⟩)] w fun e' w'=>e'= .returned e.val∧Kept [] w w':=by
 have hk0:=(Kept.refl [] w).alloc (.cells #[.int .i64 0,.int .i64 0,.int .i64 0,.int .i64 0,.int .i64 0] 24);obtain⟨c0,c1,c2,c3,c4,_⟩:=(h.kept hk0 (by simp)).end_;have HKA:=hide (fun vs:Array Value=>(Kept.refl [] w).alloc (.cells vs 24));clear hk0;unfold Ps.val;go_enter Tryz.func33,Tryz.ntmps33;go_wp2;refine bodyPost_ret (v:= .agg #[.int .i64 e.s,.int .i64 e.o,.int .i64 e.l,.int .i64 e.v,.int .i64 e.m]) (by simp [results,Tryz.results33,go_sem]) rfl ⟨rfl,HKA.out _⟩
theorem cerr_any (c d gp:Nat)(p e:Ps)(er:Int)(w:World)(h:CcAt w c d gp p e er):
  Calls Tryz.prog 34 #[.pointer (some ⟨c,0,none⟩)] w fun e' w'=>e'= .returned (.int .i64 er)∧w=w':=by
 obtain⟨_,_,_,_,_,c5⟩:=h.end_;go_enter Tryz.func34,Tryz.ntmps34;go_wp2;go_ret;exact⟨rfl,rfl⟩
theorem cerr_nil (w:World):
  Calls Tryz.prog 34 #[.pointer none] w fun e' w'=>e'= .returned (.int .i64 1)∧w=w':=by
 go_enter Tryz.func34,Tryz.ntmps34;go_wp2;go_ret;exact⟨rfl,rfl⟩
theorem crecords_any (P:Option Addr)(w:World):
  Calls Tryz.prog 86 #[.pointer P] w fun e w'=>e= .returned (.func (.func 151) #[] #[.pointer (some ⟨w.heap.size,0,none⟩)])∧w'=w.alloc (.cells #[.pointer P] 65):=by
 have hmf:∀ (fn:Fn) (first cap:Array Value) (w:World),(Instr.makeFunc fn first cap).run Tryz.prog w= .ok (.func fn first cap) w:=fun _ _ _ _=>rfl;go_enter Tryz.func86,Tryz.ntmps86;go_wp2;go_ret;exact⟨by simp,rfl⟩

theorem cisNext_any (i:It)(w:World):
  Calls Tryz.prog 218 #[i.val] w fun e w'=>e= .returned (.bool (decide (i.k=7)))∧Kept [] w w':=by
 have hk:=(Kept.refl [] w).alloc (.cells i.cells 84);have HK:=hide hk;clear hk;obtain⟨k,b,c,v⟩:=i;obtain⟨t,ht⟩:∃ t,(k==(7:Int))=t:=⟨_,rfl⟩;have HT:Hid (decide (k=7)=t):=hide (by rw[←ht];exact(Bool.beq_eq_decide_eq k 7).symm);unfold item.It.val;go_enter Tryz.func218,Tryz.ntmps218;go_wp2;go_ret;exact⟨by rw[HT.out];rfl,HK.out⟩
inductive NextIdx (l:List It):Int→Prop where
 | no (h:l.find? (fun i=>decide (i.k=7))=none):NextIdx l (-1)
 | yes (j:Nat) (i:It) (hj:l[j]? = some i) (h:l.find? (fun i=>decide (i.k=7))=some i):NextIdx l j
theorem find_at {l:List It}{k:Nat}{i:It}(h1:((l.take k).any fun i=>decide (i.k=7))=false)(h2:l[k]? = some i)(h3:i.k=7):l.find? (fun i=>decide (i.k=7))=some i:=by
 have hk:k<l.length:=(List.getElem?_eq_some_iff.1 h2).1
 have e:l=l.take k++i::l.drop (k+1):=by
  obtain⟨_,h4⟩:=List.getElem?_eq_some_iff.1 h2;rw[←h4,List.getElem_cons_drop,List.take_append_drop]
 rw[e,List.find?_append,List.find?_eq_none.2 (by simpa [List.any_eq_false]using h1)]
 simp [h3]

set_option maxHeartbeats 1000000 in
theorem cindex_any (L:Option Addr)(n c:Nat)(l:List It)(w:World)(hv:Items w [] L l)(hl:l.length=n)(hn:n≤1000):
  Calls Tryz.prog 217 #[.slice L n c,.func (.func 218) #[] #[]] w fun e w'=>∃ k:Int,e= .returned (.int .i64 k)∧NextIdx l k∧Kept [] w w':=by
 have HV:=hide hv;have HL:=hide hl;clear hv hl;go_enter Tryz.func217,Tryz.ntmps217;go_wp2
 go_loopw [8] (fun i wr=>∃ k:Nat,k≤n∧i= .int .i64 k∧Hid (((l.take k).any fun i=>decide (i.k=7))=false)∧Hid (Kept [] w wr)) (fun i wr=>n-(intOf i).toNat)
 case atStart=>exact⟨0,by omega,rfl,hide rfl,hide (Kept.refl _ _)⟩
 case round=>
  obtain⟨k,hk,rfl,HM1,HK1⟩:=hrel
  by_cases hlt:k<n
  ·obtain⟨i,hi⟩:∃ i,l[k]? = some i:=⟨_,List.getElem?_eq_getElem (by rw[HL.out];exact hlt)⟩;obtain⟨ad,rfl,_,c0,c1,c2,c3⟩:=(HV.out.kept HK1.out (by simp)).at_ hi;have HI:=hide hi;clear hi;go_wp2_with fail;refine(cisNext_any i _).mono ?_;rintro e w2 ⟨rfl,hk2⟩;have HK2:=hide (HK1.out.trans hk2 (by simp));clear hk2 c0 c1 c2 c3
   by_cases hm:i.k=7
   ·have HE:=hide (NextIdx.yes k i HI.out (find_at HM1.out HI.out hm));rw[decide_eq_true hm];clear hm;go_wp2;go_ret;exact⟨(k:Int),rfl,HE.out,HK2.out⟩
   ·rw[decide_eq_false hm]
    have HM2:Hid (((l.take (k+1)).any fun i=>decide (i.k=7))=false):=hide (by
     rw[List.take_add_one,HI.out,List.any_append,HM1.out]
     simp [hm])
    clear hm;go_wp2;go_roundw
    case rel=>exact⟨k+1,by omega,by go_num,HM2,HK2⟩
    case measure=>simp [intOf];omega
  ·obtain rfl:k=n:=by omega
   have HE:Hid (NextIdx l (-1)):=hide (by
    have:=HM1.out
    rw[List.take_of_length_le (by rw[HL.out];exact Nat.le_refl _)]at this
    exact .no (List.find?_eq_none.2 (by simpa [List.any_eq_false]using this)))
   go_wp2;go_ret;exact⟨-1,rfl,HE.out,HK1.out⟩
theorem field_s (a c z:Int)(w:World):(Instr.field 29 (.agg #[.int .i64 a,.int .i64 c,.int .i64 z]) 1).run Tryz.prog w= .ok (.int .i64 c) w:=by kernel_rfl
end Go.Proofs.YtjkmahmoclobmaaGreat.sc
