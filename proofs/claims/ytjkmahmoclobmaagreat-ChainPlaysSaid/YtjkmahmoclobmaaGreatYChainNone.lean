import Derived.Test.YtjkmahmoclobmaaGreatYChainRange
set_option linter.unusedSimpArgs false
set_option linter.unusedVariables false
set_option maxRecDepth 100000
set_option maxHeartbeats 4000000
namespace Go.Proofs.YtjkmahmoclobmaaGreat.sc
open Go.RowKit mem base disk owns geom
open record (Rc RcIn RcAt)
open crc (PartsIn)
attribute [local go_sem] Oper.semAt_some
def FncIn (w:World)(S:List Nat):List (Ps×Rc)→List Value→Prop
 | [],xs=>xs=[]
 | (pk,R)::l,xs=>∃ L m c P k d rest,xs= .int .i64 pk.s:: .int .i64 pk.o:: .int .i64 pk.l:: .int .i64 pk.v:: .int .i64 pk.m:: .int .i64 R.m:: .int .i64 R.l:: .int .i64 R.p:: .slice L m c:: .slice P k d::rest∧RcIn w S L m P k R∧FncIn w S l rest
theorem FncIn.kept {w w':World}{S S':List Nat}(k:Kept S' w w')(hs:∀ i∈S',i∈S):∀ {l:List (Ps×Rc)} {xs:List Value},FncIn w S l xs→FncIn w' S l xs
 | [],_,h=>h
 | (_,_)::_,_,⟨L,m,c,P,n,d,rest,h1,h2,h3⟩=>⟨L,m,c,P,n,d,rest,h1,h2.kept k hs,h3.kept k hs⟩
theorem FncIn.away {w:World}{S S':List Nat}(hs:∀ i∈S',i∈S∨w.heap.size≤i):∀ {l:List (Ps×Rc)} {xs:List Value},FncIn w S l xs→FncIn w S' l xs
 | [],_,h=>h
 | (_,_)::_,_,⟨L,m,c,P,n,d,rest,h1,h2,h3⟩=>⟨L,m,c,P,n,d,rest,h1,h2.away hs,h3.away hs⟩
theorem FncIn.snoc {w:World}{S:List Nat}(pk:Ps)(R:Rc){L:Option Addr}{m c:Nat}{P:Option Addr}{k d:Nat}(hr:RcIn w S L m P k R):∀ {l:List (Ps×Rc)} {xs:List Value},FncIn w S l xs→FncIn w S (l++[(pk,R)]) (xs++[.int .i64 pk.s,.int .i64 pk.o,.int .i64 pk.l,.int .i64 pk.v,.int .i64 pk.m,.int .i64 R.m,.int .i64 R.l,.int .i64 R.p,.slice L m c,.slice P k d])
 | [],xs,h=>by
  have h':xs=[]:=h;subst h';exact⟨L,m,c,P,k,d,[],rfl,hr,rfl⟩
 | (a,b)::l,xs,h=>by
  obtain⟨L',m',c',P',n',d',rest,rfl,h2,h3⟩:=h;exact⟨L',m',c',P',n',d',_,rfl,h2,FncIn.snoc pk R hr h3⟩
theorem vals_putS {w:World}{S:List Nat}{A:Option Addr}{vs:List Value}{i:Nat}{o o':Obj}(h:Vals w S A vs)(hi:w.heap[i]? = some o)(hc:o.isCells=false):Vals (w.putObj i o') S A vs:=fun k v hv=>by
 obtain⟨ad,h1,h2,_⟩:=h k v hv;obtain⟨ad2,h3,_,h4⟩:=vals_put (o':=o') h hi hc k v hv;rw[h1]at h3;injection h3 with h3;subst h3;exact⟨ad,h1,h2,h4⟩
theorem RcIn.putObj {w:World}{S:List Nat}{i:Nat}{o o':Obj}{L:Option Addr}{m:Nat}{P:Option Addr}{n:Nat}{R:Rc}(h2:RcIn w S L m P n R)(hi:w.heap[i]? = some o)(hc:o.isCells=false):RcIn (w.putObj i o') S L m P n R:=
 ⟨h2.hn,h2.hk,vals_putS h2.its hi hc,by
  obtain⟨vs,v1,v2⟩:=h2.bks;refine⟨vs,⟨v1.1,fun j bs hb=> ?_⟩,vals_putS v2 hi hc⟩;obtain⟨Ai,ci,h4,h5,h6⟩:=v1.2 j bs hb
  exact⟨Ai,ci,h4,h5,vals_putS h6 hi hc⟩⟩
theorem FncIn.putObjS {w:World}{S:List Nat}{i:Nat}{o o':Obj}(hi:w.heap[i]? = some o)(hc:o.isCells=false):∀ {l:List (Ps×Rc)} {xs:List Value},FncIn w S l xs→FncIn (w.putObj i o') S l xs
 | [],_,h=>h
 | (_,_)::_,_,⟨L,m,c,P,n,d,rest,h1,h2,h3⟩=>⟨L,m,c,P,n,d,rest,h1,RcIn.putObj h2 hi hc,FncIn.putObjS hi hc h3⟩
def ChWN (X:List Nat)(bm b6 base:Nat)(most:Int)(I:List Nat)(pre:List (Ps×Rc))(C:List Nat)(W:World):Prop:=
 ∃ v xs,Blk W bm 3 #[.int .i64 most]∧Blk W b6 69 #[v]∧W.ownsRow base 162 10 v pre.length xs∧FncIn W (I++C++X) pre xs∧C=bm::b6::v.ownBlock.toList∧(∀ y∈C,y∉I)
theorem ChWN.abides (X:List Nat)(bm b6 base:Nat)(most:Int):Abides (ChWN X bm b6 base most):=fun I pre C W W' S ⟨v,xs,h1,h2,h3,h4,h5,h6⟩ k hS=>by
 subst h5;refine⟨v,xs,k.blk h1 (fun hm=>h6 bm (by simp) (hS _ hm)),k.blk h2 (fun hm=>h6 b6 (by simp) (hS _ hm)),own_keep h3 k (fun i hi hm=>h6 i (by simp [hm]) (hS i hi)),h4.kept k (fun i hi=>by simp [hS i hi]),rfl,h6⟩
theorem ChWN.lt {X:List Nat}{bm b6 base:Nat}{most:Int}{I:List Nat}{pre:List (Ps×Rc)}{C:List Nat}{W:World}(h:ChWN X bm b6 base most I pre C W):∀ y∈C,y<W.heap.size:=by
 obtain⟨v,xs,h1,h2,h3,h4,rfl,h6⟩:=h;intro y hy
 rcases List.mem_cons.1 hy with rfl|hy
 ·exact h1.lt
 rcases List.mem_cons.1 hy with rfl|hy
 ·exact h2.lt
 ·exact(own_blk h3 y hy).2.1
theorem ChWN.grows (X:List Nat)(bm b6 base:Nat)(most:Int):Grows (ChWN X bm b6 base most):=fun I J pre C W h hJ=>by
 have hlt:=h.lt;obtain⟨v,xs,h1,h2,h3,h4,h5,h6⟩:=h;refine⟨v,xs,h1,h2,h3,h4.away (fun i hi=> ?_),h5,fun y hy hm=>(hJ y hm).elim (h6 y hy) (fun h7=>by have:=hlt y hy;omega)⟩
 rcases List.mem_append.1 hi with hi|hi
 ·rcases List.mem_append.1 hi with hi|hi
  ·exact(hJ i hi).imp (fun h=>List.mem_append_left _ (List.mem_append_left _ h)) id
  ·exact .inl (List.mem_append_left _ (List.mem_append_right _ hi))
 ·exact .inl (List.mem_append_right _ hi)
theorem ChWN.puts (X:List Nat)(bm b6 base:Nat)(most:Int):Puts (ChWN X bm b6 base most):=fun I pre C W i o o' ⟨v,xs,h1,h2,h3,h4,h5,h6⟩ ho hc hi=>by
 subst h5;simp only[List.mem_cons,not_or]at hi;have k:=kept_put W i o';exact⟨v,xs,k.blk h1 (by simpa using fun e=>hi.1 e.symm),k.blk h2 (by simpa using fun e=>hi.2.1 e.symm),own_keep h3 k (fun j hj hm=>by simp at hj;subst hj;exact hi.2.2 hm),h4.putObjS ho hc,rfl,h6⟩
theorem cfound_info:(Tryz.prog.info? 162).map (fun i=>(i.zero,i.size,i.bytes))=some (some (.agg #[.int .i64 0,.int .i64 0,.int .i64 0,.int .i64 0,.int .i64 0,.int .i64 0,.int .i64 0,.int .i64 0,.slice none 0 0,.slice none 0 0]),10,112):=by kernel_rfl

theorem cwalk_in (n:Nat)(hn:3≤n)(F:List Nat)(D:Dk)(hD:D.ok)(c d gp:Nat)(fr e0:Ps)(er0:Int)(b s r q zl:Int)(l:List (Ps×Rc))(E:Ps)(err most:Int)(w:World)(hl:Logs D s zl r q fr l E err)(hm:(l.length:Int)≤most)(hl7:l.length≤1000)
  (hs:CcAt w c d gp fr e0 er0) (hg:GAt w gp b s zl r q) (hv:VD w F d D) (hcg:c≠gp) (hcf:c∉F):
  CallsIn Fence.wide n Tryz.prog 37 #[.pointer (some ⟨c,0,none⟩),.int .i64 most] w fun e W'=>∃ v xs,e= .returned v∧W'.ownsRow w.heap.size 162 10 v l.length xs∧FncIn W' (c::F) l xs∧CcAt W' c d gp fr E err∧Kept [c] w W':=by
 have h1:1≤n:=by omega
 have hnf:∀ (cap:Array Value) (w:World),(binOp .eql 167 (.func (.func 151) #[] cap) Value.nilFunc).run Tryz.prog w= .ok (.bool false) w:=fun _ _=>rfl;obtain⟨i0,hi,hz0,hz1,hz2⟩:=info_parts cfound_info;have HS:=hide hs;have HV:=hide hv;have HGE:=hide hg;have HF:=hide hv.lt;have HL:=sealed hl;have HXL:=hide (show c<w.heap.size∧gp<w.heap.size from⟨hs.lt,hg.lt⟩);have HCG:=sealed hcg;have HCF:=hide hcf;clear hs hv hg hl hcg hcf;refine callsIn_of_wp_marks Tryz.func37 rfl trivial ?_ rfl;simp only[Tryz.ntmps37,List.size_toArray,List.length_cons,List.length_nil,Nat.reduceAdd,Nat.reduceSub,Array.replicate_succ,Array.replicate_zero,List.push_toArray,List.append_toArray,List.nil_append,List.cons_append]
 gi_wp2_with (refine⟨trivial,?_⟩;gi_at_call 86;refine(callsIn_wide.2 (crecords_any (some ⟨c,0,none⟩) _)).mono ?_;rintro e w' ⟨rfl,rfl⟩)
 obtain⟨bm,hbm⟩:∃ bm,w.heap.size=bm:=⟨_,rfl⟩;have k1:Kept [] w (((w.alloc (.cells #[.int .i64 most] 3)).alloc (.cells #[.pointer (some ⟨c,0,none⟩)] 65)).alloc (.cells #[.slice none 0 0] 69)):=(((Kept.refl [] w).alloc _).alloc _).alloc _;have B1:=((Blk.new w 3 #[.int .i64 most]).alloc (.cells #[.pointer (some ⟨c,0,none⟩)] 65)).alloc (.cells #[.slice none 0 0] 69);have B2:=(Blk.new (w.alloc (.cells #[.int .i64 most] 3)) 65 #[.pointer (some ⟨c,0,none⟩)]).alloc (.cells #[.slice none 0 0] 69);have B3:=Blk.new ((w.alloc (.cells #[.int .i64 most] 3)).alloc (.cells #[.pointer (some ⟨c,0,none⟩)] 65)) 69 #[.slice none 0 0]
 have hsA:(((w.alloc (.cells #[.int .i64 most] 3)).alloc (.cells #[.pointer (some ⟨c,0,none⟩)] 65)).alloc (.cells #[.slice none 0 0] 69)).heap.size=bm+1+1+1:=by simp [hbm]
 simp only[World.size_alloc]at B2 B3;rw[hbm]at B1 B2 B3;have HXB:=hide (show c<bm∧gp<bm by have:=HXL.out;omega);have HFB:Hid (∀ y∈F,y<bm):=hide (fun y hy=>by have:=HF.out y hy;omega);have HBM:=hide hbm;simp only[hbm];generalize (((w.alloc (.cells #[.int .i64 most] 3)).alloc (.cells #[.pointer (some ⟨c,0,none⟩)] 65)).alloc (.cells #[.slice none 0 0] 69))=wA at k1 B1 B2 B3 hsA ⊢
 refine range_chain (w:=wA) h1 (gf:=151) (lb:=#[.pointer (some ⟨bm+1,0,none⟩)]) rfl (enters_of Tryz.func151 (by kernel_rfl) rfl) rfl l
  (fun I _=>I=[c]) [bm,bm+1+1] (fun o W=>o=none→CcAt W c d gp fr E err∧Kept [c] w W) (ChWN (c::F) bm (bm+1+1) (bm+1+1+1) most) (fun _ _ _ _ _=>False) (c::F)
  (ChWN.abides _ _ _ _ _) (fun _ _ _ _ _ _ _ h _ _=>h) (ChWN.grows _ _ _ _ _) (fun _ _ _ _ _ _ h _=>h) (ChWN.puts _ _ _ _ _) (fun _ _ _ _ _ _ _ _ h _ _ _=>h) (fun _ _ _ _ h=>h.lt) ?hG ?hseq ?hI0 ?hC0 ?h0 ?hround ?hdone ?hstop
 case hG=>
  rintro b W i o o' hg hi ho hc hb;obtain⟨g1,g3⟩:=hg hb
  have:=HXB.out
  exact⟨g1.kept (kept_put W i o') (by simp;omega),g3.trans (kept_put W i o') (fun y hy=>by simp at hy;subst hy;exact .inr (by have:=HBM.out;omega))⟩
 case hseq=>
  intro lp J Jx hJ hJx hJG hJxG hJP hJxP hJC hY W hK hsz hJ0;have hx:=HXB.out;have hle:=hK.size;have hkw:Kept [] w W:=k1.trans hK (by simp)
  refine(callsIn_wide.2 (crecs_any J Jx F D hD (n-1-1) lp (bm+1) c d gp fr e0 er0 b s zl r q l E err ((wA.heap.size+1)::wA.heap.size::[bm,bm+1+1]) W hJ hJx hJG hJxG hJP hJxP hJC HL.out (fun I pre C W pk R A m cc A2 k dc hI hj hp hr hl=>hY I pre C W pk R A m cc A2 k dc hj hp (hr.less (fun i hi=>by simp at hi ⊢;rcases hi with h|h|h|h<;>simp [h,hI])) hl) (hJ0 [c] rfl)
   (hK.blk B2 (by simp)) (HS.out.kept hkw (by simp)) (HGE.out.kept hkw) (HV.out.kept hkw (by simp)) ?_ HCG.out HCF.out (by omega))).mono ?_
  ·rintro i (rfl|rfl|rfl|hi) hm
   ·simp at hm;omega
   ·simp at hm;omega
   ·simp at hm;omega
   ·have:=HFB.out i hi
    simp at hm;omega
  ·rintro e W' ⟨hv,C,en,er,hcw,(⟨hn,rfl,rfl⟩|⟨pre,_,_,hnx⟩)⟩
   ·refine⟨hv,_,C,.inl ⟨hn,fun _=>⟨hcw.cc,?_⟩⟩⟩;refine(hkw.mono (S':=[c]) (by simp)).trans hcw.kept (fun y hy=> ?_);simp at hy
    have:=HBM.out
    rcases hy with h|h|h|h|h
    ·exact .inl (by simp [h])
    all_goals exact .inr (by omega)
   ·exact⟨hv,_,C,.inr ⟨pre,hnx,fun h=>by cases h⟩⟩
 case hI0=>
  rintro I W hk hsz rfl
  have:=HXB.out
  simp
  omega
 case hC0=>simp;omega
 case h0=>
  rintro I W hk hsz rfl
  have:=HXB.out
  refine⟨.slice none 0 0,[],hk.blk B1 (by simp),hk.blk B3 (by simp),World.ownsRow_nil _ _ _ _,rfl,by simp [Value.ownBlock],?_⟩
  simp
  omega
 case hround=>
  rintro lp I pre C pk R L m lc A k dc W K ⟨v,xs,b1,b6,hown,hfnd,rfl,hCI⟩ hpre hrc hIl hlp hlpI hlpW hKK;obtain⟨A1,cc,hvs,_,_⟩:=own_read hown;subst hvs;have HKK:=hide hKK;clear hKK;unfold recVal
  try unfold Ps.val
  gi_wp2
  have hka:=((Kept.refl [] W).alloc (.cells #[.int .i64 pk.s,.int .i64 pk.o,.int .i64 pk.l,.int .i64 pk.v,.int .i64 pk.m] 24)).alloc (.cells #[.int .i64 R.m,.int .i64 R.l,.int .i64 R.p,.slice L m lc,.slice A k dc] 111);have hba:=(Blk.new W 24 #[.int .i64 pk.s,.int .i64 pk.o,.int .i64 pk.l,.int .i64 pk.v,.int .i64 pk.m]).alloc (.cells #[.int .i64 R.m,.int .i64 R.l,.int .i64 R.p,.slice L m lc,.slice A k dc] 111);have hbr:=Blk.new (W.alloc (.cells #[.int .i64 pk.s,.int .i64 pk.o,.int .i64 pk.l,.int .i64 pk.v,.int .i64 pk.m] 24)) 111 #[.int .i64 R.m,.int .i64 R.l,.int .i64 R.p,.slice L m lc,.slice A k dc];rw[World.size_alloc]at hbr;obtain⟨rr,hrr⟩:∃ rr,W.heap.size=rr:=⟨_,rfl⟩;simp only[hrr]at hbr hba ⊢;refine HKK.out _ _ _ (fun y hy=> .inl hy) hka ?_;intro W2 hk2
  have hS:∀ y∈[lp],y∈I:=by simpa using hlpI
  have hrI:rr∉I:=fun hm=>by have:=hIl rr hm;omega
  have hrI1:rr+1∉I:=fun hm=>by have:=hIl _ hm;omega
  have hba':=hk2.blk hba (fun hm=>hrI (hS _ hm));obtain⟨a0,a1,a2,a3,a4⟩:=record.cell5 hba';have B1':=hk2.blk (hka.blk b1 (by simp)) (fun hm=>hCI bm (by simp) (hS _ hm));have B6':=hk2.blk (hka.blk b6 (by simp)) (fun hm=>hCI (bm+1+1) (by simp) (hS _ hm));have hown':=own_keep (own_keep hown hka (by simp)) hk2 (fun i hi hm=>hCI i (by simp [hm]) (hS i hi));have hfnd':=(hfnd.kept hka (by simp)).kept hk2 (fun i hi=>by simp [hS i hi]);have hrc':=(hrc.kept hka (by simp)).kept hk2 (fun i hi=>by simp [hS i hi]);have hbr':=hk2.blk hbr (fun hm=>hrI1 (hS _ hm))
  have hlen:pre.length<l.length:=by
   have:=hpre.length_le
   simp at this
   omega
  have hlt:¬(most≤(pre.length:Int)):=by omega
  obtain⟨r0,r1,r2,r3,r4⟩:=record.cell5 hbr';have c6:W2.cell? ⟨bm+1+1,0,none⟩=some (.slice A1 pre.length cc):=B6'.cell 0;have c1:W2.cell? ⟨bm,0,none⟩=some (.int .i64 most):=B1'.cell 0;have HO':=hide hown';have HF':=hide hfnd';have HR':=hide hrc';have HB1:=hide B1';have HB6:=hide B6';have HCI:=hide hCI;have HIL:=hide hIl;have HW2:=hide (show(∀ y∈I,y<W2.heap.size)∧bm+1+1+1≤W2.heap.size from⟨fun y hy=>Nat.lt_of_lt_of_le (hIl y hy) (Nat.le_trans hka.size hk2.size),B6'.lt⟩);have hb2:=HW2.out.2;clear hown hfnd hrc hka hbr hba hba' hk2 hS hown' hfnd' hrc' hbr' B1' B6' b1 b6 hCI hIl HKK hpre hrI hrI1
  gi_wp2_with (gi_at_builtin;refine wpListIn_append_vals rfl _ _ 69 rfl (bm+1+1+1) 162 i0 (.agg #[.int .i64 0,.int .i64 0,.int .i64 0,.int .i64 0,.int .i64 0,.int .i64 0,.int .i64 0,.int .i64 0,.slice none 0 0,.slice none 0 0]) 10 112 Tryz.underlying69 hi hz0 hz1 hz2 rfl (by decide) _ _ _ rfl (own_keep HO'.out ((Kept.refl [] W2).alloc _) (by simp)) [] (some ⟨W2.heap.size,0,none⟩) 1 1 [.int .i64 pk.s,.int .i64 pk.o,.int .i64 pk.l,.int .i64 pk.v,.int .i64 pk.m,.int .i64 R.m,.int .i64 R.l,.int .i64 R.p,.slice L m lc,.slice A k dc] rfl rfl (Vals.lit W2 [] _ _ _ _ rfl (by simp)) (by simp [Value.oneCell']) (by simp only[maxLen];omega) (by omega) (by rw[World.size_alloc];omega) ?_;intro v' w1 hown1 hk1 hat1;obtain⟨g',cap',rfl⟩:=ownsRow_succ hown1;have hfar:∀ i∈(Value.slice A1 pre.length cc).ownBlock.toList,bm+1+1+1≤i:=fun i hi=>(own_blk HO'.out i hi).1;have hb61:=hk1.blk (HB6.out.alloc _) (fun hm=>by have:=hfar _ hm;omega);have hc61:w1.cell? ⟨bm+1+1,0,none⟩=some (.slice A1 pre.length cc):=hb61.cell 0;have hf61:=hb61.frozen 0)
  have hks:=(Kept.refl [bm+1+1] w1).set_ (b:=bm+1+1) (.inl (by simp)) 0 (.slice (some ⟨g',0,none⟩) (pre.length+1) cap')
  have hkt:Kept (bm::(bm+1+1)::(Value.slice A1 pre.length cc).ownBlock.toList) W2 (w1.setCell ⟨bm+1+1,0,none⟩ (.slice (some ⟨g',0,none⟩) (pre.length+1) cap')):=
   ((((Kept.refl _ W2).alloc _).trans hk1 (fun i hi=> .inl (by simp only[List.mem_cons];exact .inr (.inr hi))))).trans hks (fun i hi=> .inl (by simp at hi;simp [hi]))
  have hgb:=(own_blk hown1 g' (by simp [Value.ownBlock])).1
  have hgn:g'∈(Value.slice A1 pre.length cc).ownBlock.toList∨W2.heap.size≤g':=by
   rcases hat1 with h|h
   ·have h':(Value.slice (some ⟨g',0,none⟩) (pre.length+1) cap').ownBlock=(Value.slice A1 pre.length cc).ownBlock:=h;exact .inl (by rw[←h'];simp [Value.ownBlock])
   ·simp [Value.ownBlock]at h
    exact .inr (by omega)
  have hgI:g'∉I:=fun hm=>hgn.elim (fun h=>HCI.out g' (by simp only[List.mem_cons];exact .inr (.inr h)) hm) (fun h=>by have:=HW2.out.1 g' hm;omega)
  have hsub:∀ y∈bm::(bm+1+1)::(Value.slice (some ⟨g',0,none⟩) (pre.length+1) cap').ownBlock.toList,y∈bm::(bm+1+1)::(Value.slice A1 pre.length cc).ownBlock.toList∨W2.heap.size≤y:=by
   intro y hy;simp only[List.mem_cons]at hy ⊢
   rcases hy with h|h|h
   ·exact .inl (.inl h)
   ·exact .inl (.inr (.inl h))
   ·simp [Value.ownBlock]at h
    subst h;exact hgn.imp (fun h=> .inr (.inr h)) id
  have hold:∀ y∈I++(bm::(bm+1+1)::(Value.slice (some ⟨g',0,none⟩) (pre.length+1) cap').ownBlock.toList)++(c::F),y∈I++(bm::(bm+1+1)::(Value.slice A1 pre.length cc).ownBlock.toList)++(c::F)∨W2.heap.size≤y:=fun y hy=>by
   rcases List.mem_append.1 hy with hy|hy
   ·rcases List.mem_append.1 hy with hy|hy
    ·exact .inl (List.mem_append_left _ (List.mem_append_left _ hy))
    ·exact(hsub y hy).imp (fun h=>List.mem_append_left _ (List.mem_append_right _ h)) id
   ·exact .inl (List.mem_append_right _ hy)
  have hF2:FncIn W2 (I++(bm::(bm+1+1)::(Value.slice A1 pre.length cc).ownBlock.toList)++(c::F)) (pre++[(pk,R)]) (xs++[.int .i64 pk.s,.int .i64 pk.o,.int .i64 pk.l,.int .i64 pk.v,.int .i64 pk.m,.int .i64 R.m,.int .i64 R.l,.int .i64 R.p,.slice L m lc,.slice A k dc]):=FncIn.snoc pk R HR'.out HF'.out;have hF3:=((hF2.away (S':=(bm::(bm+1+1)::(Value.slice A1 pre.length cc).ownBlock.toList)++(I++(bm::(bm+1+1)::(Value.slice (some ⟨g',0,none⟩) (pre.length+1) cap').ownBlock.toList)++(c::F))) (fun y hy=>(List.mem_append.1 hy).elim (fun h=> .inl (List.mem_append_left _ (List.mem_append_right _ h))) (hold y))).kept hkt (fun y hy=>List.mem_append_left _ hy)).away (S':=I++(bm::(bm+1+1)::(Value.slice (some ⟨g',0,none⟩) (pre.length+1) cap').ownBlock.toList)++(c::F)) (fun y hy=> .inl (List.mem_append_right _ hy));refine⟨_,hsub,hkt,_,_,hks.blk (hk1.blk (HB1.out.alloc _) (fun hm=>by have:=hfar _ hm;omega)) (by simp;omega),hb61.set_ 0 _,?_,hF3,rfl,?_⟩
  ·rw[List.length_append];exact own_keep hown1 hks (fun i hi hm=>by have:=(own_blk hown1 i hm).1;simp at hi;omega)
  ·intro y hy hm;simp only[List.mem_cons]at hy
   rcases hy with h|h|h
   ·rw[h]at hm;exact HCI.out bm (by simp) hm
   ·rw[h]at hm;exact HCI.out (bm+1+1) (by simp) hm
   ·simp [Value.ownBlock]at h
    subst h;exact hgI hm
 case hdone=>
  rintro D2 C W hD2 ⟨I,v,xs,b1,b6,hown,hfnd,rfl,hCI⟩ hg hDC hK;obtain⟨hsc,hkx⟩:=hg rfl;have c6:W.cell? ⟨bm+1+1,0,none⟩=some v:=b6.cell 0;have HO:=hide hown;have HFN:=hide hfnd;have HSC:=hide hsc;have HKX:=hide hkx;have HDW:=hide (show w.heap.size≤D2 by have:=HBM.out;omega);clear hown hfnd hsc hkx hg hDC b1 b6 hCI
  gi_wp2
  refine⟨by simp,.inl ⟨_,_,rfl,run_takeDeferred hK,?_⟩⟩;have hkp:Kept [D2] W (W.putObj D2 (.deferred none)):=kept_put _ _ _
  have hcell:∀ (y:Nat),y∈v.ownBlock.toList→y≠D2:=fun y hy e=>by
   obtain⟨_,_,cur,hc⟩:=own_blk HO.out y hy;subst e;rw[show W.heap[y]? = _ from hc]at hK;cases hK
  refine⟨_,results_tmp rfl _ _ _,v,xs,rfl,own_low (own_keep HO.out hkp (fun i hi hm=>by simp at hi;subst hi;exact hcell _ hm rfl)) (by have:=HBM.out;omega),?_,HSC.out.kept hkp (by have:=HXB.out;have:=HBM.out;have:=HDW.out;simp;omega),HKX.out.trans hkp (fun y hy=>by simp at hy;subst hy;exact .inr HDW.out)⟩
  exact(FncIn.putObjS hK rfl HFN.out).away (fun y hy=> .inl (List.mem_append_right _ hy))
 case hstop=>
  rintro D C cd pre W hD ⟨I,h⟩ _ _ _;exact h.elim
theorem cwalk_any (F:List Nat)(D:Dk)(hD:D.ok)(c d gp:Nat)(fr e0:Ps)(er0:Int)(b s r q zl:Int)(l:List (Ps×Rc))(E:Ps)(err most:Int)(w:World)(hl:Logs D s zl r q fr l E err)(hm:(l.length:Int)≤most)(hl7:l.length≤1000)
  (hs:CcAt w c d gp fr e0 er0) (hg:GAt w gp b s zl r q) (hv:VD w F d D) (hcg:c≠gp) (hcf:c∉F):
  Calls Tryz.prog 37 #[.pointer (some ⟨c,0,none⟩),.int .i64 most] w fun e W'=>∃ A cp xs,e= .returned (.slice A l.length cp)∧l.length≤cp∧Vals W' [] A xs∧FncIn W' (c::F) l xs∧CcAt W' c d gp fr E err∧Kept [c] w W':=
 (callsIn_wide.1 (cwalk_in 3 (Nat.le_refl _) F D hD c d gp fr e0 er0 b s r q zl l E err most w hl hm hl7 hs hg hv hcg hcf)).mono fun _ _ ⟨v,xs,he,ho,hf,hsc,hk⟩=>by
  obtain⟨A,cp,rfl,hc,hv⟩:=own_read ho;exact⟨A,cp,xs,he,hc,hv [] (by simp),hf,hsc,hk⟩
end Go.Proofs.YtjkmahmoclobmaaGreat.sc

namespace Go.Proofs.YtjkmahmoclobmaaGreat.sc
open Go.RowKit mem base disk owns
open record (Rc RcIn RcAt)
attribute [local go_sem] Oper.semAt_some
theorem crecs_nil (n:Nat)(lp Bs:Nat)(W:World)(hbox:Blk W Bs 65 #[.pointer none]):
  CallsIn Fence.wide n Tryz.prog 151 #[.func (.yield lp) #[] #[],.pointer (some ⟨Bs,0,none⟩)] W fun e W'=>(∃ v,e= .returned v)∧Kept [] W W':=by
 have hc0:W.cell? ⟨Bs,0,none⟩=some (.pointer none):=hbox.cell 0;refine callsIn_of_wp Tryz.func151 rfl trivial ?_ rfl;simp only[Tryz.ntmps151,List.size_toArray,List.length_cons,List.length_nil,Nat.reduceAdd,Nat.reduceSub,Array.replicate_succ,Array.replicate_zero,List.push_toArray,List.append_toArray,List.nil_append,List.cons_append]
 have hmx:Tryz.prog.follows .mixedOrders=true:=by kernel_rfl
 gi_wp2
 refine bodyPost_ret (v:= .tuple #[]) ?_ rfl ⟨⟨_,rfl⟩,Kept.refl _ _⟩
 simp [results,Tryz.results151,go_sem]
theorem cwalk_nil (n:Nat)(hn:3≤n)(most:Int)(w:World):
  CallsIn Fence.wide n Tryz.prog 37 #[.pointer none,.int .i64 most] w fun e W'=>∃ c,e= .returned (.slice none 0 c)∧Kept [] w W':=by
 have h1:1≤n:=by omega
 have hnf:∀ (cap:Array Value) (w:World),(binOp .eql 167 (.func (.func 151) #[] cap) Value.nilFunc).run Tryz.prog w= .ok (.bool false) w:=fun _ _=>rfl;refine callsIn_of_wp_marks Tryz.func37 rfl trivial ?_ rfl;simp only[Tryz.ntmps37,List.size_toArray,List.length_cons,List.length_nil,Nat.reduceAdd,Nat.reduceSub,Array.replicate_succ,Array.replicate_zero,List.push_toArray,List.append_toArray,List.nil_append,List.cons_append]
 gi_wp2_with (refine⟨trivial,?_⟩;gi_at_call 86;refine(callsIn_wide.2 (crecords_any none _)).mono ?_;rintro e w' ⟨rfl,rfl⟩)
 obtain⟨bm,hbm⟩:∃ bm,w.heap.size=bm:=⟨_,rfl⟩;have k1:Kept [] w (((w.alloc (.cells #[.int .i64 most] 3)).alloc (.cells #[.pointer none] 65)).alloc (.cells #[.slice none 0 0] 69)):=(((Kept.refl [] w).alloc _).alloc _).alloc _;have B2:=(Blk.new (w.alloc (.cells #[.int .i64 most] 3)) 65 #[.pointer none]).alloc (.cells #[.slice none 0 0] 69);have B3:=Blk.new ((w.alloc (.cells #[.int .i64 most] 3)).alloc (.cells #[.pointer none] 65)) 69 #[.slice none 0 0]
 have hsA:(((w.alloc (.cells #[.int .i64 most] 3)).alloc (.cells #[.pointer none] 65)).alloc (.cells #[.slice none 0 0] 69)).heap.size=bm+1+1+1:=by simp [hbm]
 simp only[World.size_alloc]at B2 B3;rw[hbm]at B2 B3;have HBM:=hide hbm;simp only[hbm];generalize (((w.alloc (.cells #[.int .i64 most] 3)).alloc (.cells #[.pointer none] 65)).alloc (.cells #[.slice none 0 0] 69))=wA at k1 B2 B3 hsA ⊢
 refine range_chain (w:=wA) h1 (gf:=151) (lb:=#[.pointer (some ⟨bm+1,0,none⟩)]) rfl (enters_of Tryz.func151 (by kernel_rfl) rfl) rfl []
  (fun I _=>I=[]) [bm+1+1] (fun o W=>o=none→Kept [] w W) (fun I _ C W=>C=[bm+1+1]∧bm+1+1∉I∧Blk W (bm+1+1) 69 #[.slice none 0 0]) (fun _ _ _ _ _=>False) []
  (fun I pre C W W' S ⟨h1,h2,h3⟩ k hS=>⟨h1,h2,k.blk h3 (fun hm=>h2 (hS _ hm))⟩) (fun _ _ _ _ _ _ _ h _ _=>h) (fun I J pre C W ⟨h1,h2,h3⟩ hJ=>⟨h1,fun hm=>(hJ _ hm).elim h2 (fun h=>by have:=h3.lt;omega),h3⟩) (fun _ _ _ _ _ _ h _=>h)
  (fun I pre C W i o o' ⟨h1,h2,h3⟩ ho hc hi=>⟨h1,h2,(kept_put W i o').blk h3 (by rw[h1]at hi;simpa using fun e=>hi (by simp [e]))⟩) (fun _ _ _ _ _ _ _ _ h _ _ _=>h) (fun _ _ _ _ h=>by rw[h.1];intro y hy;simp at hy;subst hy;exact h.2.2.lt) ?hG ?hseq ?hI0 ?hC0 ?h0 ?hround ?hdone ?hstop
 case hG=>
  rintro b W i o o' hg hi ho hc hb
  exact(hg hb).trans (kept_put W i o') (fun y hy=>by simp at hy;subst hy;exact .inr (by have:=HBM.out;omega))
 case hseq=>
  intro lp J Jx hJ hJx hJG hJxG hJP hJxP hJC hY W hK hsz hJ0;refine(crecs_nil (n-1) lp (bm+1) W (hK.blk B2 (by simp))).mono ?_;rintro e W' ⟨hv,hkk⟩;exact⟨hv,[],_,.inl ⟨hJ _ _ _ _ _ [] (hJ0 [] rfl) hkk (by simp),fun _=>(k1.trans hK (by simp)).trans hkk (by simp)⟩⟩
 case hI0=>
  rintro I W hk hsz rfl
  simp
 case hC0=>simp;omega
 case h0=>
  rintro I W hk hsz rfl;refine⟨rfl,by simp;omega,hk.blk B3 (by simp)⟩
 case hround=>
  rintro lp I pre C pk R L m c A k d W K _ hpre _ _ _ _ _ _;exact absurd (List.IsPrefix.length_le hpre) (by simp)
 case hdone=>
  rintro D2 C W hD2 ⟨I,rfl,hI,b6⟩ hg hDC hK;have c6:W.cell? ⟨bm+1+1,0,none⟩=some (.slice none 0 0):=b6.cell 0;have HKX:=hide (hg rfl);clear hg hDC b6 hI
  gi_wp2
  refine⟨by simp,.inl ⟨_,_,rfl,run_takeDeferred hK,?_⟩⟩;exact⟨_,results_tmp rfl _ _ _,0,rfl,HKX.out.trans (kept_put W D2 (.deferred none)) (fun y hy=>by simp at hy;subst hy;exact .inr (by have:=HBM.out;omega))⟩
 case hstop=>
  rintro D C c pre W hD ⟨I,h⟩ _ _ _;exact h.elim
theorem cwalk_none (most:Int)(w:World):Calls Tryz.prog 37 #[.pointer none,.int .i64 most] w fun e W'=>∃ c,e= .returned (.slice none 0 c)∧Kept [] w W':=
 callsIn_wide.1 (cwalk_nil 3 (Nat.le_refl _) most w)
end Go.Proofs.YtjkmahmoclobmaaGreat.sc
