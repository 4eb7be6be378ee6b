import Derived.Test.YtjkmahmoclobmaaGreatQAlike
import Derived.Deep.RegionHeld3
import Derived.Test.YtjkmahmoclobmaaGreatQScanToldCore
namespace Go.Proofs.YtjkmahmoclobmaaGreat.base
open Go.RowKit mem
set_option maxRecDepth 100000 in
set_option maxHeartbeats 1000000 in
theorem config_small (x y z:Int)(w:World):
  Calls Tryz.prog 10 #[.agg #[.int .i64 x,.int .i64 y,.int .i64 z],.bool true] w fun e w'=>∃ b s l,e= .returned (.agg #[.int .i64 b,.int .i64 s,.int .i64 l])∧((1≤b∧b≤24)∧(8≤s∧s≤10)∧24≤l∧l≤27)∧Kept [] w w':=by
 have hk:=hide (((Kept.refl [] w).alloc (.cells #[.int .i64 x,.int .i64 y,.int .i64 z] 22)))
 obtain⟨b,hb⟩:∃ b,x%24=b:=⟨_,rfl⟩
 obtain⟨s,hs⟩:∃ s,y%3=s:=⟨_,rfl⟩
 obtain⟨l,hl⟩:∃ l,z%4=l:=⟨_,rfl⟩
 have hb1:0≤b∧b≤23:=by omega
 have hs1:0≤s∧s≤2:=by omega
 have hl1:0≤l∧l≤3:=by omega
 have HB:=hide hb
 have HS:=hide hs
 have HL:=hide hl
 clear hb hs hl
 have g1:IntKind.i64.wrap (1+b)=1+b:=IntWalk.i64_in _ (by omega)
 have g2:IntKind.i64.wrap (8+s)=8+s:=IntWalk.i64_in _ (by omega)
 have g3:IntKind.i64.wrap (24+l)=24+l:=IntWalk.i64_in _ (by omega)
 go_enter Tryz.func10,Tryz.ntmps10
 go_wp2
 go_region_held3 (fun W=>W.cell? ⟨w.heap.size,0,none⟩=some (.int .i64 x)∧W.cell? ⟨w.heap.size,1,none⟩=some (.int .i64 y)∧W.cell? ⟨w.heap.size,2,none⟩=some (.int .i64 z))
  (first|(simp;done)|(simp_all;done))
  (first|(go_at_call 12;first|(refine(round_any x 24 _ (by omega) (by omega)).mono ?_;rintro e w1 ⟨rfl,rfl⟩;rw[HB.out])|(refine(round_any y 3 _ (by omega) (by omega)).mono ?_;rintro e w1 ⟨rfl,rfl⟩;rw[HS.out])|(refine(round_any z 4 _ (by omega) (by omega)).mono ?_;rintro e w1 ⟨rfl,rfl⟩;rw[HL.out])))
 go_wp2
 refine bodyPost_ret (v:= .agg #[.int .i64 (1+b),.int .i64 (8+s),.int .i64 (24+l)]) (by simp [results,Tryz.results10,go_sem]) rfl ⟨1+b,8+s,24+l,rfl,by omega,?_⟩
 exact(hk.out.alloc _).drew
end Go.Proofs.YtjkmahmoclobmaaGreat.base
namespace Go.Proofs.YtjkmahmoclobmaaGreat.sc
open Go.RowKit mem base disk geom
open record (Rc)
open item (It)
def nextItem (R:Rc):Option It:=R.its.find? fun i=>decide (i.k=7)
theorem nextItem_none {R:Rc}:nextItem R=none↔hasNext R=false:=by
 unfold nextItem hasNext
 rw[List.find?_eq_none,List.any_eq_false]
theorem nextItem_some {R:Rc}{i:It}(h:nextItem R=some i):hasNext R=true∧i∈R.its∧i.k=7:=by
 have h1:=List.mem_of_find?_eq_some h
 have h2:=List.find?_some h
 exact⟨List.any_eq_true.2 ⟨i,h1,h2⟩,h1,of_decide_eq_true h2⟩
def stepOn (s:Int)(p:Ps)(R:Rc):Ps×Bool:=match nextItem R with
 | none=>(p,false)
 | some i=>if s≤i.v then(p,false)else(⟨i.v,0,p.l,p.v,p.m⟩,true)
theorem stepOn_none {s:Int}{p:Ps}{R:Rc}(h:hasNext R=false):stepOn s p R=(p,false):=by
 unfold stepOn
 rw[nextItem_none.2 h]
theorem stepOn_on {s:Int}{p:Ps}{R:Rc}(h:(stepOn s p R).2=true):(stepOn s p R).1.o=0∧(stepOn s p R).1.l=p.l∧(stepOn s p R).1.v=p.v∧(stepOn s p R).1.m=p.m∧(stepOn s p R).1.s<s∧hasNext R=true:=by
 unfold stepOn at h ⊢
 split at h
 ·cases h
 ·rename_i i hi
  split at h
  ·cases h
  ·rename_i h1
   rw[if_neg h1]
   exact⟨rfl,rfl,rfl,rfl,by show i.v<s;omega,(nextItem_some hi).1⟩
theorem recs_place {D:Dk}{a z:Int}:∀ (f:Nat) (p:Ps) (pre:List (Ps×Rc)) (pk:Ps) (R:Rc),pre++[(pk,R)] <+: (recs D a z f p).1→
  (pre=[]∧pk=p)∨∃ pre' p' R' s',pre=pre'++[(p',R')]∧follow D a z p'=(some (R',s'),0)∧hasNext R'=false∧pk=behind p' R' s'
 | 0,p,pre,pk,R,h=>by
  have:=h.length_le
  simp [recs]at this
 | f+1,p,pre,pk,R,h=>by
  unfold recs at h
  rcases hf:follow D a z p with⟨o,e⟩
  rw[hf]at h
  cases o with
  | none=>
   have:=h.length_le
   simp at this
  | some y=>
   obtain⟨R0,s0⟩:=y
   dsimp only at h
   by_cases hn:hasNext R0=true
   ·rw[if_pos hn]at h
    cases pre with
    | nil=>
     refine .inl ⟨rfl,?_⟩
     have:=List.prefix_cons_iff.1 h
     simp at h
     exact h.1
    | cons x t=>
     have:=h.length_le
     simp at this
   ·rw[if_neg hn]at h
    cases pre with
    | nil=>
     simp at h
     exact .inl ⟨rfl,h.1⟩
    | cons x t=>
     rw[List.cons_append,List.cons_prefix_cons]at h
     obtain⟨hx,ht⟩:=h
     right
     have he:e=0:=by
      unfold follow at hf
      split at hf
      ·cases hf
      ·split at hf
       ·cases hf
       ·split at hf
        ·cases hf
        ·split at hf
         ·cases hf
         ·split at hf
          ·injection hf with _ h2;exact h2.symm
          ·cases hf
     rcases recs_place f _ t pk R ht with⟨rfl,hp⟩|⟨pre',p',R',s',rfl,h2,h3,h4⟩
     ·exact⟨[],p,R0,s0,by rw[hx];rfl,by rw[hf,he],by simpa using hn,hp⟩
     ·exact⟨x::pre',p',R',s',by simp,h2,h3,h4⟩
theorem scan_place {D:Dk}{a z:Int}{p:Ps}{hb:Bool}{l:List (Ps×Rc)}{E:Ps}{err:Int}(h:scanOf D a z p hb=(l,E,err)){pre:List (Ps×Rc)}{pk:Ps}{R:Rc}(hp:pre++[(pk,R)] <+: l):
  (pre=[]∧(start D a z p hb).1=some pk)∨∃ pre' p' R' s',pre=pre'++[(p',R')]∧follow D a z p'=(some (R',s'),0)∧hasNext R'=false∧pk=behind p' R' s':=by
 unfold scanOf at h
 rcases hs:start D a z p hb with⟨o,e⟩
 rw[hs]at h
 cases o with
 | none=>
  dsimp only at h
  injection h with h1 _
  rw[←h1]at hp
  have:=hp.length_le
  simp at this
 | some q=>
  dsimp only at h
  have hl:l=(recs D a z z.toNat q).1:=by rw[h]
  rw[hl]at hp
  rcases recs_place _ _ _ _ _ hp with⟨h1,h2⟩|h1
  ·exact .inl ⟨h1,by rw[h2]⟩
  ·exact .inr h1
theorem recs_end {D:Dk}{a z:Int}:∀ (f:Nat) (p:Ps) (pre:List (Ps×Rc)) (pk:Ps) (R:Rc),(recs D a z f p).1=pre++[(pk,R)]→
  ∃ s,follow D a z pk=(some (R,s),0)∧(recs D a z f p).2.1=behind pk R s∧(hasNext R=true→(recs D a z f p).2.2=0)
 | 0,p,pre,pk,R,h=>by simp [recs]at h
 | f+1,p,pre,pk,R,h=>by
  unfold recs at h ⊢
  rcases hf:follow D a z p with⟨o,e⟩
  rw[hf]at h
  cases o with
  | none=>simp at h
  | some y=>
   obtain⟨R0,s0⟩:=y
   have he:e=0:=by
    unfold follow at hf
    split at hf
    ·cases hf
    ·split at hf
     ·cases hf
     ·split at hf
      ·cases hf
      ·split at hf
       ·cases hf
       ·split at hf
        ·injection hf with _ h2;exact h2.symm
        ·cases hf
   dsimp only at h ⊢
   by_cases hn:hasNext R0=true
   ·rw[if_pos hn]at h ⊢
    have h1:pre=[]:=by
     cases pre with
     | nil=>rfl
     | cons x t=>
      have:=congrArg List.length h
      simp at this
    subst h1
    simp at h
    obtain⟨rfl,rfl⟩:=h
    exact⟨s0,by rw[hf,he],rfl,fun _=>rfl⟩
   ·rw[if_neg hn]at h ⊢
    dsimp only at h ⊢
    cases pre with
    | nil=>
     simp at h
     obtain⟨⟨rfl,rfl⟩,h2⟩:=h
     refine⟨s0,by rw[hf,he],?_,fun h3=>absurd h3 hn⟩
     cases f with
     | zero=>rfl
     | succ f=>
      unfold recs at h2 ⊢
      split at h2
      ·rename_i h5;rfl
      ·split at h2<;>cases h2
    | cons x t=>
     rw[List.cons_append]at h
     injection h with h1 h2
     exact recs_end f _ t pk R h2
theorem scan_end {D:Dk}{a z:Int}{p:Ps}{hb:Bool}{l:List (Ps×Rc)}{E:Ps}{err:Int}(h:scanOf D a z p hb=(l,E,err)){pre:List (Ps×Rc)}{pk:Ps}{R:Rc}(hp:l=pre++[(pk,R)]):
  ∃ s,follow D a z pk=(some (R,s),0)∧E=behind pk R s∧(hasNext R=true→err=0):=by
 unfold scanOf at h
 rcases hs:start D a z p hb with⟨o,e⟩
 rw[hs]at h
 cases o with
 | none=>
  dsimp only at h
  injection h with h1 _
  rw[←h1]at hp
  have:=congrArg List.length hp
  simp at this
 | some q=>
  dsimp only at h
  have hl:(recs D a z z.toNat q).1=pre++[(pk,R)]:=by rw[h];exact hp
  obtain⟨s,h1,h2,h3⟩:=recs_end _ _ _ _ _ hl
  rw[h]at h2 h3
  exact⟨s,h1,h2,h3⟩
inductive Stand (D:Dk) (a z s:Int) (p:Ps):List (Ps×Rc)→Ps→Bool→Prop where
 | nil:Stand D a z s p [] p false
 | snoc (pre:List (Ps×Rc)) (pk:Ps) (R:Rc) (sm:Int) (h:follow D a z pk=(some (R,sm),0)):Stand D a z s p (pre++[(pk,R)]) (stepOn s (behind pk R sm) R).1 (stepOn s (behind pk R sm) R).2
theorem Stand.next {D:Dk}{a z s:Int}{p at_:Ps}{pre:List (Ps×Rc)}{on:Bool}(hst:Stand D a z s p pre at_ on){l:List (Ps×Rc)}{E:Ps}{err:Int}(h:scanOf D a z p false=(l,E,err)){pk:Ps}{R:Rc}(hp:pre++[(pk,R)] <+: l):
  (at_.o≠0→pk=at_)∧(at_.o=0→at_=p∧(start D a z p false).1=some pk):=by
 rcases scan_place h hp with⟨rfl,h1⟩|⟨pre',p',R',s',rfl,h2,h3,h4⟩
 ·generalize hg:([]:List (Ps×Rc))=g at hst
  cases hst with
  | nil=>
   refine⟨fun ho=> ?_,fun ho=>⟨rfl,h1⟩⟩
   unfold start at h1
   rw[if_pos ho]at h1
   injection h1 with h1
   exact h1.symm
  | snoc pre2 pk2 R2 sm h2=>
   have:=congrArg List.length hg
   simp at this
 ·generalize hg:pre'++[(p',R')]=g at hst
  cases hst with
  | nil=>
   have:=congrArg List.length hg
   simp at this
  | snoc pre2 pk2 R2 sm h5=>
   obtain⟨rfl,h6⟩:=List.append_inj' hg rfl
   injection h6 with h6 _
   injection h6 with h6 h7
   subst h6 h7
   rw[h2]at h5
   injection h5 with h5 _
   injection h5 with h5
   injection h5 with _ h5
   subst h5
   have hb:=(follow_in h2).1
   rw[stepOn_none h3]
   refine⟨fun _=>h4,fun ho=> ?_⟩
   exact absurd ho (by unfold behind lenOf;dsimp only;omega)
theorem Stand.done {D:Dk}{a z s:Int}{p at_:Ps}{L:List (Ps×Rc)}{on:Bool}(hst:Stand D a z s p L at_ on){E:Ps}{err:Int}(h:scanOf D a z p false=(L,E,err)):on=true→err=0∧at_.l=E.l∧at_.o=0∧∃ pre pk R,L=pre++[(pk,R)]:=by
 intro hon
 cases hst with
 | nil=>cases hon
 | snoc pre pk R sm hf=>
  obtain⟨sm2,h1,h2,h3⟩:=scan_end h rfl
  obtain⟨h4,h5,_,_,_,h6⟩:=stepOn_on hon
  rw[hf]at h1
  injection h1 with h1 _
  injection h1 with h1
  injection h1 with _ h1
  subst h1
  exact⟨h3 h6,by rw[h5,h2],h4,pre,pk,R,rfl⟩
end Go.Proofs.YtjkmahmoclobmaaGreat.sc
