import Derived.Test.YtjkmahmoclobmaaGreatYChainSeg
namespace Go.Proofs.YtjkmahmoclobmaaGreat.sc
set_option linter.unusedSimpArgs false
set_option linter.unusedVariables false
open Go.RowKit mem base disk geom owns
open record (Rc RcIn RcAt put5 put5_kept cell5)
open item (It Items)
theorem Stand.det {D:Dk}{a z s:Int}{p x1 x2:Ps}{L:List (Ps×Rc)}{o1 o2:Bool}(h1:Stand D a z s p L x1 o1)(h2:Stand D a z s p L x2 o2):x1=x2∧o1=o2:=by
 generalize hg:L=M at h2
 cases h1 with
 | nil=>
  cases h2 with
  | nil=>exact⟨rfl,rfl⟩
  | snoc pre pk R sm h=>
   have:=congrArg List.length hg
   simp at this
 | snoc pre pk R sm h=>
  cases h2 with
  | nil=>
   have:=congrArg List.length hg
   simp at this
  | snoc pre2 pk2 R2 sm2 h3=>
   obtain⟨rfl,h6⟩:=List.append_inj' hg rfl;injection h6 with h6 _;injection h6 with h6 h7;subst h6 h7;rw[h]at h3;injection h3 with h3 _;injection h3 with h3;injection h3 with _ h3;subst h3;exact⟨rfl,rfl⟩
section
variable (N Nx:Wd)(Bs c d gp:Nat)(F C0:List Nat)(W0:World)(D:Dk)(b s l r q:Int)(fr:Ps)(L:List (Ps×Rc))(E:Ps)(err:Int)
structure CrW (W:World)(C:List Nat)(en:Ps)(er:Int):Prop where
 box:Blk W Bs 65 #[.pointer (some ⟨c,0,none⟩)]
 cc:CcAt W c d gp fr en er
 geo:GAt W gp b s l r q
 disk:VD W F d D
 sub:∀ y∈C,y∈C0∨W0.heap.size≤y
 ap:∀ y,(y=Bs∨y=c∨y=gp∨y∈F)→y∉C
 kept:Kept (c::C0) W0 W
def CrEnd (W:World):Prop:=∃ C en er,CrW Bs c d gp F C0 W0 D b s l r q fr W C en er∧((N [c] L C W∧en=E∧er=err)∨(∃ pre,pre <+: L∧pre≠[]∧Nx [c] pre C W))
end
section
variable {N Nx:Wd}{Bs c d gp:Nat}{F C0:List Nat}{W0:World}{D:Dk}{b s l r q:Int}{fr:Ps}{L:List (Ps×Rc)}{E:Ps}{err:Int}{W W':World}{C:List Nat}{en:Ps}{er:Int}
theorem CrW.keep (h:CrW Bs c d gp F C0 W0 D b s l r q fr W C en er){S:List Nat}(k:Kept S W W')(hS:∀ y∈S,y≠Bs∧y≠c∧y≠gp∧y∉F)(hs:∀ y∈S,W0.heap.size≤y):CrW Bs c d gp F C0 W0 D b s l r q fr W' C en er:=
 ⟨k.blk h.box (fun hm=>(hS _ hm).1 rfl),h.cc.kept k (fun hm=>(hS _ hm).2.1 rfl),h.geo.kept k (fun hm=>(hS _ hm).2.2.1 rfl),h.disk.kept k (fun y hy hm=>(hS _ hm).2.2.2 hy),h.sub,h.ap,h.kept.trans k (fun y hy=> .inr (hs y hy))⟩
theorem CrW.seg (h:CrW Bs c d gp F C0 W0 D b s l r q fr W C en er){C':List Nat}(k:Kept (c::C) W W')(hC:∀ y∈C',y∈C∨W.heap.size≤y)(hap:∀ y,(y=c∨y=gp∨y∈F)→y∉C'){en':Ps}{er':Int}(cc:CcAt W' c d gp fr en' er')(hcg:c≠gp)(hcf:c∉F)(hcb:c≠Bs):CrW Bs c d gp F C0 W0 D b s l r q fr W' C' en' er':=by
 have hsz:=h.kept.size;have hbl:=h.box.lt;refine⟨k.blk h.box (by simpa using⟨fun e=>hcb e.symm,h.ap _ (.inl rfl)⟩),cc,h.geo.kept k (by simpa using⟨fun e=>hcg e.symm,h.ap _ (.inr (.inr (.inl rfl)))⟩),h.disk.kept k (fun y hy hm=>(List.mem_cons.1 hm).elim (fun e=>hcf (e▸hy)) (h.ap _ (.inr (.inr (.inr hy))))),fun y hy=>(hC y hy).elim (h.sub y) (fun h2=> .inr (by omega)),?_,h.kept.trans k (fun y hy=>(List.mem_cons.1 hy).elim (fun e=> .inl (by simp [e])) (fun h2=>(h.sub y h2).imp (fun h3=>by simp [h3]) id))⟩;rintro y (rfl|hy) hm
 ·exact(hC y hm).elim (h.ap _ (.inl rfl)) (fun h2=>by omega)
 ·exact hap y hy hm
end
def CrOn (N:Wd)(Bs c d gp:Nat)(F C0:List Nat)(W0:World)(D:Dk)(b s l r q:Int)(fr:Ps)(L:List (Ps×Rc))(E:Ps)(err:Int)(bp:Nat)(at_:Ps)(W:World):Prop:=
 ∃ pre rest C en er,Blk W bp 24 #[.int .i64 at_.s,.int .i64 at_.o,.int .i64 at_.l,.int .i64 at_.v,.int .i64 at_.m]∧(W0.heap.size≤bp∧bp∉C)∧CrW Bs c d gp F C0 W0 D b s l r q fr W C en er∧N [c,bp] pre C W∧Logs D s l r q at_ rest E err∧L=pre++rest
def crMu (p3 on:Value)(W:World):Nat:=match on with
 | .bool true=>1+(match p3 with
  | .pointer (some ad)=>(match W.cell? ⟨ad.block,2,none⟩with|some (.int _ v)=>(2147483648-v).toNat|_=>0)
  | _=>0)
 | _=>0
theorem crMu_at {W:World}{bp:Nat}{v:Int}(h:W.cell? ⟨bp,2,none⟩=some (.int .i64 v)):crMu (.pointer (some ⟨bp,0,none⟩)) (.bool true) W=1+(2147483648-v).toNat:=by
 unfold crMu;show 1+(match W.cell? ⟨bp,2,none⟩with|some (.int _ v)=>(2147483648-v).toNat|_=>0)=_;rw[h]

theorem Logs.num {D:Dk}(hD:D.ok){s l r q:Int}{p:Ps}{L:List (Ps×Rc)}{E:Ps}{err:Int}{at_:Ps}{on:Bool}(h:segOf D s l r q p=(L,E,err))(hs:Stand D (ofSeg none s l r q p.s).2.1 (ofSeg none s l r q p.s).2.2 s p L at_ on)(hon:on=true):p.l<at_.l∧p.l≤2147483647:=by
 unfold segOf at h;obtain⟨_,h2,_,pre,pk,R,h3⟩:=hs.done h hon;rw[h2];unfold scanOf at h
 rcases hst:start D (ofSeg none s l r q p.s).2.1 (ofSeg none s l r q p.s).2.2 p false with⟨o,e⟩
 rw[hst]at h
 cases o with
 | none=>
  dsimp only at h;injection h with h4 _;rw[h3]at h4
  have:=congrArg List.length h4
  simp at this
 | some p2=>
  dsimp only at h
  have hl:p2.l=p.l:=by
   unfold start at hst
   split at hst
   ·injection hst with h5 _;injection h5 with h5;rw[h5]
   ·split at hst
    ·cases hst
    ·split at hst
     ·rename_i h6
      injection hst with h5 _;injection h5 with h5
      rcases h6.2 with h7|h7
      ·cases h7
      unfold hd.fits at h7;simp at h7;rw[←h5];exact h7.2.2.1
     ·cases hst
  have h6:=recs_num hD (a:=(ofSeg none s l r q p.s).2.1) (z:=(ofSeg none s l r q p.s).2.2) (ofSeg none s l r q p.s).2.2.toNat p2;rw[h]at h6;dsimp only at h6;obtain⟨h7,h8⟩:=h6
  have h9:1≤L.length:=by rw[h3];simp
  obtain⟨y,hy⟩:∃ y,L[0]? = some y:=⟨_,List.getElem?_eq_getElem (by omega)⟩;obtain⟨h10,h11⟩:=h8 0 y hy;have h12:=h11.2.1
  omega

set_option maxRecDepth 100000 in
set_option maxHeartbeats 4000000 in
theorem crecs_any (N Nx:Wd)(F:List Nat)(D:Dk)(hD:D.ok)(lv lp Bs c d gp:Nat)(fr en0:Ps)(er0:Int)(b s l r q:Int)(L:List (Ps×Rc))(E:Ps)(err:Int)(C0:List Nat)(w:World)
  (hN:Abides N) (hNx:Abides Nx) (hG:Grows N) (hGx:Grows Nx) (hP:Puts N) (hPx:Puts Nx) (hC:∀ I pre C W,N I pre C W→∀ y∈C,y<W.heap.size) (hl:Logs D s l r q fr L E err)
  (hY:∀ I pre C W pk R A m cc A2 k dc,c∈I→N I pre C W→pre++[(pk,R)] <+: L→RcIn W (I++C++F) A m A2 k R→(∀ y∈I,y<W.heap.size)→YieldAt Fence.wide lv Tryz.prog lp #[pk.val,recVal R A m cc A2 k dc] W fun e W'=>
   ∃ C',(∀ y∈C',y∈C∨W.heap.size≤y)∧Kept C W W'∧((e= .returned (.bool true)∧N I (pre++[(pk,R)]) C' W')∨(e= .returned (.bool false)∧Nx I (pre++[(pk,R)]) C' W')))
  (h0:N [c] [] C0 w) (hb:Blk w Bs 65 #[.pointer (some ⟨c,0,none⟩)]) (hc:CcAt w c d gp fr en0 er0) (hg:GAt w gp b s l r q) (hv:VD w F d D) (hap:∀ y,(y=Bs∨y=c∨y=gp∨y∈F)→y∉C0) (hcg:c≠gp) (hcf:c∉F) (hcb:c≠Bs):
  Calls Tryz.prog 151 #[.func (.yield lp) #[] #[],.pointer (some ⟨Bs,0,none⟩)] w fun e w'=>(∃ v,e= .returned v)∧CrEnd N Nx Bs c d gp F C0 w D b s l r q fr L E err w':=by
 have HD:=hide hD;have HN:=hide hN;have HNX:=hide hNx;have HG:=hide hG;have HGX:=hide hGx;have HP:=hide hP;have HPX:=hide hPx;have HCL:=hide hC;have HY:=hide hY;have HCG:=sealed hcg;have HCF:=hide hcf;have HCB:=sealed hcb;have HW:Hid (CrW Bs c d gp F C0 w D b s l r q fr w C0 en0 er0):=hide ⟨hb,hc,hg,hv,fun y hy=> .inl hy,hap,Kept.refl _ _⟩;have H0:=hide h0;have HL:=sealed hl;have HLT:=hide (show c<w.heap.size∧Bs<w.heap.size∧gp<w.heap.size∧∀ y∈F,y<w.heap.size from⟨hc.lt,hb.lt,hg.lt,hv.lt⟩);have b0:=hb.cell 0;obtain⟨c2,c3,c4,c5,c6⟩:=hc.from_;clear hD hN hNx hG hGx hP hPx hC hY hcg hcf hcb h0 hl hb hc hg hv hap;refine callsIn_wide.1 (callsIn_of_wp (n:=3) Tryz.func151 rfl trivial ?_ rfl);simp only[Tryz.ntmps151,List.size_toArray,List.length_cons,List.length_nil,Nat.reduceAdd,Nat.reduceSub,Array.replicate_succ,Array.replicate_zero,List.push_toArray,List.append_toArray,List.nil_append,List.cons_append];refine wpIn_wide.2 ?_;go_wp2;obtain⟨bp0,hbp0⟩:∃ bp0,w.heap.size=bp0:=⟨_,rfl⟩;have HBP:=hide (Nat.le_of_eq hbp0);have hk1:=(Kept.refl [] w).alloc (.cells #[.int .i64 fr.s,.int .i64 fr.o,.int .i64 fr.l,.int .i64 fr.v,.int .i64 fr.m] 24);have hx1:=Blk.new w 24 #[.int .i64 fr.s,.int .i64 fr.o,.int .i64 fr.l,.int .i64 fr.v,.int .i64 fr.m];simp only[hbp0]at hx1 ⊢;generalize w.alloc (.cells #[.int .i64 fr.s,.int .i64 fr.o,.int .i64 fr.l,.int .i64 fr.v,.int .i64 fr.m] 24)=w1 at hk1 hx1 ⊢;have HON:Hid (CrOn N Bs c d gp F C0 w D b s l r q fr L E err bp0 fr w1):=hide ⟨[],L,C0,en0,er0,hx1,⟨by omega,fun hm=>by have:=HCL.out _ _ _ _ H0.out _ hm;omega⟩,HW.out.keep hk1 (by simp) (by simp),HN.out _ _ _ _ _ _ (HG.out [c] [c,bp0] _ _ _ H0.out (by simp;omega)) hk1 (by simp),HL.out,rfl⟩
 clear hk1 hx1 b0 c2 c3 c4 c5 c6 HW H0 HL
 go_loopw [3,4] (fun p3 on wr=>(∃ bp at_,p3= .pointer (some ⟨bp,0,none⟩)∧on= .bool true∧Hid (CrOn N Bs c d gp F C0 w D b s l r q fr L E err bp at_ wr))∨((∃ v,p3= .pointer v)∧on= .bool false∧Hid (CrEnd N Nx Bs c d gp F C0 w D b s l r q fr L E err wr))) (fun p3 on wr=>crMu p3 on wr)
 case atStart=>exact .inl ⟨bp0,fr,rfl,rfl,HON⟩
 case round=>
  rcases hrel with⟨bp,at_,rfl,rfl,HO⟩|⟨⟨v,rfl⟩,rfl,HE⟩
  ·clear HON;obtain⟨pre,rest,C,en,er,hx,⟨hbl,hbC⟩,hw,hn,hlg,hL⟩:=HO.out;clear HO;obtain⟨p0,p1,p2,p3,p4⟩:=cell5 hx;have b0:=hw.box.cell 0;have HX:=hide hx;have HBL:=hide hbl;have HBC:=hide hbC;have HW:=hide hw;have HNW:=hide hn;have HLE:=sealed hL;have hbp1:=hx.lt;have HBX:=hide (show bp≠c∧bp≠Bs∧bp≠gp∧bp∉F from by have h:=HLT.out;exact⟨by omega,by omega,by omega,fun hm=>by have:=h.2.2.2 _ hm;omega⟩);clear hx hbl hbC hw hn hL
   cases hlg with
   | last _ _ _ _ at2 hsg hst=>
    have HSG:=sealed hsg;have HSD:=hide hst;clear hsg hst
    have HYS:=hide (show ∀ I pre' C W pk R A m cc A2 k dc,c∈I→N I (pre++pre') C W→pre'++[(pk,R)] <+: rest→RcIn W (I++C++F) A m A2 k R→(∀ y∈I,y<W.heap.size)→YieldAt Fence.wide lv Tryz.prog lp #[pk.val,recVal R A m cc A2 k dc] W fun e W'=>
     ∃ C',(∀ y∈C',y∈C∨W.heap.size≤y)∧Kept C W W'∧((e= .returned (.bool true)∧N I (pre++(pre'++[(pk,R)])) C' W')∨(e= .returned (.bool false)∧Nx I (pre++(pre'++[(pk,R)])) C' W'))from fun I pre' C W pk R A m cc A2 k dc hI hn hp hrc hlt=>by
      have:=HY.out I (pre++pre') C W pk R A m cc A2 k dc hI hn (by rw[HLE.out,List.append_assoc];exact(List.prefix_append_right_inj pre).2 (hp)) hrc hlt
      rw[List.append_assoc]at this
      exact this)
    go_wp2_with fail;refine(csegment_any N Nx F D HD.out lv lp c d gp fr at_ en er b s l r q pre rest E err C [bp] _ HN.out HNX.out HG.out HGX.out HP.out HPX.out HCL.out HSG.out HYS.out HNW.out HW.out.cc HW.out.geo HW.out.disk (fun y hy=>HW.out.ap y (.inr hy)) HCG.out HCF.out (by simpa using⟨hbp1,HBX.out.2.2.2⟩)).mono ?_;rintro e w2 ⟨C',at',on',hsub,hap,hk,hee⟩;have HX2:=hide (hk.blk HX.out (by simpa using⟨HBX.out.1,HBC.out⟩));have HS2:=hide hsub;have hsz2:=hk.size;have HBC2:Hid (bp∉C'):=hide (fun hm=>(hsub _ hm).elim HBC.out (fun h=>by omega));have HW2:=hide (fun en' er' hcc=>HW.out.seg (en':=en') (er':=er') hk hsub hap hcc HCG.out HCF.out HCB.out);clear hk hsub hap p0 p1 p2 p3 p4 HYS b0;have hf:=HX2.out.frozen;obtain⟨p0,p1,p2,p3,p4⟩:=cell5 HX2.out;have HMU:=hide (crMu_at (HX.out.cell 2))
    rcases hee with⟨rfl,hst2,hn2,hcc2⟩|⟨rfl,pre2,hp2,hne2,hst2,hn2,hcc2⟩
    ·obtain⟨rfl,rfl⟩:=hst2.det HSD.out;have HN2:=hide hn2;have HC2:=hide hcc2;clear hst2 hcc2 hn2;unfold Ps.val;go_wp2;have HB3:=hide ((Blk.set_ (Blk.set_ (Blk.set_ (Blk.set_ (Blk.set_ HX2.out 0 (.int .i64 at'.s)) 1 (.int .i64 at'.o)) 2 (.int .i64 at'.l)) 3 (.int .i64 at'.v)) 4 (.int .i64 at'.m)));have HK3:=hide (((((((Kept.refl [bp] w2).set_ (b:=bp) (.inl (by simp)) 0 (.int .i64 at'.s)).set_ (b:=bp) (.inl (by simp)) 1 (.int .i64 at'.o)).set_ (b:=bp) (.inl (by simp)) 2 (.int .i64 at'.l)).set_ (b:=bp) (.inl (by simp)) 3 (.int .i64 at'.v)).set_ (b:=bp) (.inl (by simp)) 4 (.int .i64 at'.m)))
     have e23:((((((w2.setCell ⟨bp,0,none⟩ (.int .i64 at'.s)).setCell ⟨bp,1,none⟩ (.int .i64 at'.o)).setCell ⟨bp,2,none⟩ (.int .i64 at'.l)).setCell ⟨bp,3,none⟩ (.int .i64 at'.v)).setCell ⟨bp,4,none⟩ (.int .i64 at'.m))).heap.size=w2.heap.size:=by simp
     generalize (((((w2.setCell ⟨bp,0,none⟩ (.int .i64 at'.s)).setCell ⟨bp,1,none⟩ (.int .i64 at'.o)).setCell ⟨bp,2,none⟩ (.int .i64 at'.l)).setCell ⟨bp,3,none⟩ (.int .i64 at'.v)).setCell ⟨bp,4,none⟩ (.int .i64 at'.m))=w3 at HB3 HK3 e23 ⊢;have hk4:=(Kept.refl [] w3).alloc (.cells #[.int .i64 at'.s,.int .i64 at'.o,.int .i64 at'.l,.int .i64 at'.v,.int .i64 at'.m] 24);have hx4:=Blk.new w3 24 #[.int .i64 at'.s,.int .i64 at'.o,.int .i64 at'.l,.int .i64 at'.v,.int .i64 at'.m];have h34:=HK3.out.size;rw[e23]at hx4;have hb2:=HX2.out.lt;refine⟨.inr ⟨⟨_,rfl⟩,rfl,hide ⟨C',E,err,(((HW2.out _ _ HC2.out).keep HK3.out (fun i hi=>by simp at hi;subst hi;exact⟨HBX.out.2.1,HBX.out.1,HBX.out.2.2.1,HBX.out.2.2.2⟩) (fun i hi=>by simp at hi;subst hi;exact HBL.out)).keep hk4 (by simp) (by simp)),.inl ⟨?_,rfl,rfl⟩⟩⟩,by rw[HMU.out];show 0<_;omega⟩;rw[HLE.out];exact HG.out _ _ _ _ _ (HN.out _ _ _ _ _ _ (HN.out _ _ _ _ _ _ HN2.out HK3.out (by simp)) hk4 (by simp)) (by simp)
    ·have HN2:=hide hn2;have HC2:=hide hcc2;have HPL:=hide hp2;have HNE:=sealed hne2;clear hst2 hcc2 hn2 hp2 hne2;unfold Ps.val Ps.zero;go_wp2;have HB3:=hide ((Blk.set_ (Blk.set_ (Blk.set_ (Blk.set_ (Blk.set_ HX2.out 0 (.int .i64 0)) 1 (.int .i64 0)) 2 (.int .i64 0)) 3 (.int .i64 0)) 4 (.int .i64 0)));have HK3:=hide (((((((Kept.refl [bp] w2).set_ (b:=bp) (.inl (by simp)) 0 (.int .i64 0)).set_ (b:=bp) (.inl (by simp)) 1 (.int .i64 0)).set_ (b:=bp) (.inl (by simp)) 2 (.int .i64 0)).set_ (b:=bp) (.inl (by simp)) 3 (.int .i64 0)).set_ (b:=bp) (.inl (by simp)) 4 (.int .i64 0)))
     have e23:((((((w2.setCell ⟨bp,0,none⟩ (.int .i64 0)).setCell ⟨bp,1,none⟩ (.int .i64 0)).setCell ⟨bp,2,none⟩ (.int .i64 0)).setCell ⟨bp,3,none⟩ (.int .i64 0)).setCell ⟨bp,4,none⟩ (.int .i64 0))).heap.size=w2.heap.size:=by simp
     generalize (((((w2.setCell ⟨bp,0,none⟩ (.int .i64 0)).setCell ⟨bp,1,none⟩ (.int .i64 0)).setCell ⟨bp,2,none⟩ (.int .i64 0)).setCell ⟨bp,3,none⟩ (.int .i64 0)).setCell ⟨bp,4,none⟩ (.int .i64 0))=w3 at HB3 HK3 e23 ⊢;have hk4:=(Kept.refl [] w3).alloc (.cells #[.int .i64 0,.int .i64 0,.int .i64 0,.int .i64 0,.int .i64 0] 24);have hx4:=Blk.new w3 24 #[.int .i64 0,.int .i64 0,.int .i64 0,.int .i64 0,.int .i64 0];have h34:=HK3.out.size;rw[e23]at hx4;have hb2:=HX2.out.lt;refine⟨.inr ⟨⟨_,rfl⟩,rfl,hide ⟨C',_,_,(((HW2.out _ _ HC2.out).keep HK3.out (fun i hi=>by simp at hi;subst hi;exact⟨HBX.out.2.1,HBX.out.1,HBX.out.2.2.1,HBX.out.2.2.2⟩) (fun i hi=>by simp at hi;subst hi;exact HBL.out)).keep hk4 (by simp) (by simp)),.inr ⟨pre++pre2,?_,by simpa using fun _=>HNE.out,?_⟩⟩⟩,by rw[HMU.out];show 0<_;omega⟩
     ·rw[HLE.out];exact(List.prefix_append_right_inj pre).2 (HPL.out)
     ·exact HGX.out _ _ _ _ _ (HNX.out _ _ _ _ _ _ (HNX.out _ _ _ _ _ _ HN2.out HK3.out (by simp)) hk4 (by simp)) (by simp)
   | more _ L1 E1 err1 at2 L2 _ _ hsg hst hrest=>
    have HRE:=sealed hrest;clear hrest;have HSG:=sealed hsg;have HSD:=hide hst;clear hsg hst
    have HYS:=hide (show ∀ I pre' C W pk R A m cc A2 k dc,c∈I→N I (pre++pre') C W→pre'++[(pk,R)] <+: L1→RcIn W (I++C++F) A m A2 k R→(∀ y∈I,y<W.heap.size)→YieldAt Fence.wide lv Tryz.prog lp #[pk.val,recVal R A m cc A2 k dc] W fun e W'=>
     ∃ C',(∀ y∈C',y∈C∨W.heap.size≤y)∧Kept C W W'∧((e= .returned (.bool true)∧N I (pre++(pre'++[(pk,R)])) C' W')∨(e= .returned (.bool false)∧Nx I (pre++(pre'++[(pk,R)])) C' W'))from fun I pre' C W pk R A m cc A2 k dc hI hn hp hrc hlt=>by
      have:=HY.out I (pre++pre') C W pk R A m cc A2 k dc hI hn (by rw[HLE.out,List.append_assoc];exact(List.prefix_append_right_inj pre).2 (hp.trans (List.prefix_append _ _))) hrc hlt
      rw[List.append_assoc]at this
      exact this)
    go_wp2_with fail;refine(csegment_any N Nx F D HD.out lv lp c d gp fr at_ en er b s l r q pre L1 E1 err1 C [bp] _ HN.out HNX.out HG.out HGX.out HP.out HPX.out HCL.out HSG.out HYS.out HNW.out HW.out.cc HW.out.geo HW.out.disk (fun y hy=>HW.out.ap y (.inr hy)) HCG.out HCF.out (by simpa using⟨hbp1,HBX.out.2.2.2⟩)).mono ?_;rintro e w2 ⟨C',at',on',hsub,hap,hk,hee⟩;have HX2:=hide (hk.blk HX.out (by simpa using⟨HBX.out.1,HBC.out⟩));have HS2:=hide hsub;have hsz2:=hk.size;have HBC2:Hid (bp∉C'):=hide (fun hm=>(hsub _ hm).elim HBC.out (fun h=>by omega));have HW2:=hide (fun en' er' hcc=>HW.out.seg (en':=en') (er':=er') hk hsub hap hcc HCG.out HCF.out HCB.out);clear hk hsub hap p0 p1 p2 p3 p4 HYS b0;have hf:=HX2.out.frozen;obtain⟨p0,p1,p2,p3,p4⟩:=cell5 HX2.out;have HMU:=hide (crMu_at (HX.out.cell 2))
    rcases hee with⟨rfl,hst2,hn2,hcc2⟩|⟨rfl,pre2,hp2,hne2,hst2,hn2,hcc2⟩
    ·obtain⟨rfl,rfl⟩:=hst2.det HSD.out;have HN2:=hide hn2;have HC2:=hide hcc2;clear hst2 hcc2 hn2;unfold Ps.val;go_wp2;have HB3:=hide ((Blk.set_ (Blk.set_ (Blk.set_ (Blk.set_ (Blk.set_ HX2.out 0 (.int .i64 at'.s)) 1 (.int .i64 at'.o)) 2 (.int .i64 at'.l)) 3 (.int .i64 at'.v)) 4 (.int .i64 at'.m)));have HK3:=hide (((((((Kept.refl [bp] w2).set_ (b:=bp) (.inl (by simp)) 0 (.int .i64 at'.s)).set_ (b:=bp) (.inl (by simp)) 1 (.int .i64 at'.o)).set_ (b:=bp) (.inl (by simp)) 2 (.int .i64 at'.l)).set_ (b:=bp) (.inl (by simp)) 3 (.int .i64 at'.v)).set_ (b:=bp) (.inl (by simp)) 4 (.int .i64 at'.m)))
     have e23:((((((w2.setCell ⟨bp,0,none⟩ (.int .i64 at'.s)).setCell ⟨bp,1,none⟩ (.int .i64 at'.o)).setCell ⟨bp,2,none⟩ (.int .i64 at'.l)).setCell ⟨bp,3,none⟩ (.int .i64 at'.v)).setCell ⟨bp,4,none⟩ (.int .i64 at'.m))).heap.size=w2.heap.size:=by simp
     generalize (((((w2.setCell ⟨bp,0,none⟩ (.int .i64 at'.s)).setCell ⟨bp,1,none⟩ (.int .i64 at'.o)).setCell ⟨bp,2,none⟩ (.int .i64 at'.l)).setCell ⟨bp,3,none⟩ (.int .i64 at'.v)).setCell ⟨bp,4,none⟩ (.int .i64 at'.m))=w3 at HB3 HK3 e23 ⊢;have hk4:=(Kept.refl [] w3).alloc (.cells #[.int .i64 at'.s,.int .i64 at'.o,.int .i64 at'.l,.int .i64 at'.v,.int .i64 at'.m] 24);have hx4:=Blk.new w3 24 #[.int .i64 at'.s,.int .i64 at'.o,.int .i64 at'.l,.int .i64 at'.v,.int .i64 at'.m];have h34:=HK3.out.size;rw[e23]at hx4;have hb2:=HX2.out.lt;have HNUM:=Logs.num HD.out HSG.out HSD.out rfl;refine⟨.inl ⟨_,at',rfl,rfl,hide ⟨pre++L1,L2,C',_,_,hx4,⟨by have:=HBL.out;omega,fun hm=> ?_⟩,(((HW2.out _ _ HC2.out).keep HK3.out (fun i hi=>by simp at hi;subst hi;exact⟨HBX.out.2.1,HBX.out.1,HBX.out.2.2.1,HBX.out.2.2.2⟩) (fun i hi=>by simp at hi;subst hi;exact HBL.out)).keep hk4 (by simp) (by simp)),?_,HRE.out,by rw[HLE.out,List.append_assoc]⟩⟩,by rw[HMU.out,crMu_at (hx4.cell 2)];omega⟩
     ·have:=HCL.out _ _ _ _ HN2.out _ hm
      omega
     ·exact HN.out _ _ _ _ _ _ (HG.out _ [c,w2.heap.size] _ _ _ (HN.out _ _ _ _ _ _ HN2.out HK3.out (by simp)) (by simp;omega)) hk4 (by simp)
    ·have HN2:=hide hn2;have HC2:=hide hcc2;have HPL:=hide hp2;have HNE:=sealed hne2;clear hst2 hcc2 hn2 hp2 hne2;unfold Ps.val Ps.zero;go_wp2;have HB3:=hide ((Blk.set_ (Blk.set_ (Blk.set_ (Blk.set_ (Blk.set_ HX2.out 0 (.int .i64 0)) 1 (.int .i64 0)) 2 (.int .i64 0)) 3 (.int .i64 0)) 4 (.int .i64 0)));have HK3:=hide (((((((Kept.refl [bp] w2).set_ (b:=bp) (.inl (by simp)) 0 (.int .i64 0)).set_ (b:=bp) (.inl (by simp)) 1 (.int .i64 0)).set_ (b:=bp) (.inl (by simp)) 2 (.int .i64 0)).set_ (b:=bp) (.inl (by simp)) 3 (.int .i64 0)).set_ (b:=bp) (.inl (by simp)) 4 (.int .i64 0)))
     have e23:((((((w2.setCell ⟨bp,0,none⟩ (.int .i64 0)).setCell ⟨bp,1,none⟩ (.int .i64 0)).setCell ⟨bp,2,none⟩ (.int .i64 0)).setCell ⟨bp,3,none⟩ (.int .i64 0)).setCell ⟨bp,4,none⟩ (.int .i64 0))).heap.size=w2.heap.size:=by simp
     generalize (((((w2.setCell ⟨bp,0,none⟩ (.int .i64 0)).setCell ⟨bp,1,none⟩ (.int .i64 0)).setCell ⟨bp,2,none⟩ (.int .i64 0)).setCell ⟨bp,3,none⟩ (.int .i64 0)).setCell ⟨bp,4,none⟩ (.int .i64 0))=w3 at HB3 HK3 e23 ⊢;have hk4:=(Kept.refl [] w3).alloc (.cells #[.int .i64 0,.int .i64 0,.int .i64 0,.int .i64 0,.int .i64 0] 24);have hx4:=Blk.new w3 24 #[.int .i64 0,.int .i64 0,.int .i64 0,.int .i64 0,.int .i64 0];have h34:=HK3.out.size;rw[e23]at hx4;have hb2:=HX2.out.lt;refine⟨.inr ⟨⟨_,rfl⟩,rfl,hide ⟨C',_,_,(((HW2.out _ _ HC2.out).keep HK3.out (fun i hi=>by simp at hi;subst hi;exact⟨HBX.out.2.1,HBX.out.1,HBX.out.2.2.1,HBX.out.2.2.2⟩) (fun i hi=>by simp at hi;subst hi;exact HBL.out)).keep hk4 (by simp) (by simp)),.inr ⟨pre++pre2,?_,by simpa using fun _=>HNE.out,?_⟩⟩⟩,by rw[HMU.out];show 0<_;omega⟩
     ·rw[HLE.out];exact(List.prefix_append_right_inj pre).2 (HPL.out.trans (List.prefix_append _ _))
     ·exact HGX.out _ _ _ _ _ (HNX.out _ _ _ _ _ _ (HNX.out _ _ _ _ _ _ HN2.out HK3.out (by simp)) hk4 (by simp)) (by simp)
  ·go_wp2;refine bodyPost_end (v:= .tuple #[]) ?_ rfl ⟨⟨_,rfl⟩,HE.out⟩
   simp [results,Tryz.results151,go_sem]
end Go.Proofs.YtjkmahmoclobmaaGreat.sc
