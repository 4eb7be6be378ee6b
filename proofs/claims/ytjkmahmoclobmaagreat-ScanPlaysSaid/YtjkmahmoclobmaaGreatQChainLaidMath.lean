import Derived.Test.YtjkmahmoclobmaaGreatQChainRange
import Derived.Test.YtjkmahmoclobmaaGreatQScanLawCore
set_option linter.unusedSimpArgs false
set_option linter.unusedVariables false
namespace Go.Proofs.YtjkmahmoclobmaaGreat.sc
open Go.RowKit mem base disk owns geom
open record (Rc RcIn RcAt)
open crc (PartsIn)
attribute [local go_sem] Oper.semAt_some
def FncIn (w:World)(S:List Nat):List (Ps×Rc)→List Value→Prop
 | [],xs=>xs=[]
 | (pk,R)::l,xs=>∃ L m c P k d rest,xs= .int .i64 pk.s:: .int .i64 pk.o:: .int .i64 pk.l:: .int .i64 pk.v:: .int .i64 pk.m:: .int .i64 R.m:: .int .i64 R.l:: .int .i64 R.p:: .slice L m c:: .slice P k d::rest∧RcIn w S L m P k R∧FncIn w S l rest
theorem FncIn.kept {w w':World}{S S':List Nat}(k:Kept S' w w')(hs:∀ i∈S',i∈S):∀ {l:List (Ps×Rc)} {xs:List Value},FncIn w S l xs→FncIn w' S l xs
 | [],_,h=>h
 | (_,_)::_,_,⟨L,m,c,P,n,d,rest,h1,h2,h3⟩=>⟨L,m,c,P,n,d,rest,h1,h2.kept k hs,h3.kept k hs⟩
theorem FncIn.away {w:World}{S S':List Nat}(hs:∀ i∈S',i∈S∨w.heap.size≤i):∀ {l:List (Ps×Rc)} {xs:List Value},FncIn w S l xs→FncIn w S' l xs
 | [],_,h=>h
 | (_,_)::_,_,⟨L,m,c,P,n,d,rest,h1,h2,h3⟩=>⟨L,m,c,P,n,d,rest,h1,h2.away hs,h3.away hs⟩
theorem FncIn.snoc {w:World}{S:List Nat}(pk:Ps)(R:Rc){L:Option Addr}{m c:Nat}{P:Option Addr}{k d:Nat}(hr:RcIn w S L m P k R):∀ {l:List (Ps×Rc)} {xs:List Value},FncIn w S l xs→FncIn w S (l++[(pk,R)]) (xs++[.int .i64 pk.s,.int .i64 pk.o,.int .i64 pk.l,.int .i64 pk.v,.int .i64 pk.m,.int .i64 R.m,.int .i64 R.l,.int .i64 R.p,.slice L m c,.slice P k d])
 | [],xs,h=>by
  have h':xs=[]:=h
  subst h'
  exact⟨L,m,c,P,k,d,[],rfl,hr,rfl⟩
 | (a,b)::l,xs,h=>by
  obtain⟨L',m',c',P',n',d',rest,rfl,h2,h3⟩:=h
  exact⟨L',m',c',P',n',d',_,rfl,h2,FncIn.snoc pk R hr h3⟩
theorem FncIn.len {w:World}{S:List Nat}:∀ {l:List (Ps×Rc)} {xs:List Value},FncIn w S l xs→xs.length=l.length*10
 | [],xs,h=>by have h':xs=[]:=h;rw[h'];rfl
 | (_,_)::l,_,⟨L,m,c,P,n,d,rest,h1,h2,h3⟩=>by rw[h1];have:=h3.len;simp;omega
theorem vals_putS {w:World}{S:List Nat}{A:Option Addr}{vs:List Value}{i:Nat}{o o':Obj}(h:Vals w S A vs)(hi:w.heap[i]? = some o)(hc:o.isCells=false):Vals (w.putObj i o') S A vs:=fun k v hv=>by
 obtain⟨ad,h1,h2,_⟩:=h k v hv
 obtain⟨ad2,h3,_,h4⟩:=vals_put (o':=o') h hi hc k v hv
 rw[h1]at h3
 injection h3 with h3
 subst h3
 exact⟨ad,h1,h2,h4⟩
theorem RcIn.putObj {w:World}{S:List Nat}{i:Nat}{o o':Obj}{L:Option Addr}{m:Nat}{P:Option Addr}{n:Nat}{R:Rc}(h2:RcIn w S L m P n R)(hi:w.heap[i]? = some o)(hc:o.isCells=false):RcIn (w.putObj i o') S L m P n R:=
 ⟨h2.hn,h2.hk,vals_putS h2.its hi hc,by
  obtain⟨vs,v1,v2⟩:=h2.bks
  refine⟨vs,⟨v1.1,fun j bs hb=> ?_⟩,vals_putS v2 hi hc⟩
  obtain⟨Ai,ci,h4,h5,h6⟩:=v1.2 j bs hb
  exact⟨Ai,ci,h4,h5,vals_putS h6 hi hc⟩⟩
theorem FncIn.putObjS {w:World}{S:List Nat}{i:Nat}{o o':Obj}(hi:w.heap[i]? = some o)(hc:o.isCells=false):∀ {l:List (Ps×Rc)} {xs:List Value},FncIn w S l xs→FncIn (w.putObj i o') S l xs
 | [],_,h=>h
 | (_,_)::_,_,⟨L,m,c,P,n,d,rest,h1,h2,h3⟩=>⟨L,m,c,P,n,d,rest,h1,RcIn.putObj h2 hi hc,FncIn.putObjS hi hc h3⟩
theorem FncIn.putObj {w:World}{S:List Nat}{i:Nat}{o o':Obj}(hi:w.heap[i]? = some o)(hc:o.isCells=false){l:List (Ps×Rc)}{xs:List Value}(h:FncIn w S l xs):FncIn (w.putObj i o') [] l xs:=
 (h.putObjS hi hc).away (by simp)
def ChWN (X:List Nat)(bm b6 base:Nat)(most:Int)(I:List Nat)(pre:List (Ps×Rc))(C:List Nat)(W:World):Prop:=
 ∃ v xs,Blk W bm 3 #[.int .i64 most]∧Blk W b6 69 #[v]∧W.ownsRow base 162 10 v pre.length xs∧FncIn W (I++C++X) pre xs∧C=bm::b6::v.ownBlock.toList∧(∀ y∈C,y∉I)
theorem ChWN.abides (X:List Nat)(bm b6 base:Nat)(most:Int):Abides (ChWN X bm b6 base most):=fun I pre C W W' S ⟨v,xs,h1,h2,h3,h4,h5,h6⟩ k hS=>by
 subst h5
 refine⟨v,xs,k.blk h1 (fun hm=>h6 bm (by simp) (hS _ hm)),k.blk h2 (fun hm=>h6 b6 (by simp) (hS _ hm)),own_keep h3 k (fun i hi hm=>h6 i (by simp [hm]) (hS i hi)),h4.kept k (fun i hi=>by simp [hS i hi]),rfl,h6⟩
theorem ChWN.lt {X:List Nat}{bm b6 base:Nat}{most:Int}{I:List Nat}{pre:List (Ps×Rc)}{C:List Nat}{W:World}(h:ChWN X bm b6 base most I pre C W):∀ y∈C,y<W.heap.size:=by
 obtain⟨v,xs,h1,h2,h3,h4,rfl,h6⟩:=h
 intro y hy
 rcases List.mem_cons.1 hy with rfl|hy
 ·exact h1.lt
 rcases List.mem_cons.1 hy with rfl|hy
 ·exact h2.lt
 ·exact(own_blk h3 y hy).2.1
theorem ChWN.grows (X:List Nat)(bm b6 base:Nat)(most:Int):Grows (ChWN X bm b6 base most):=fun I J pre C W h hJ=>by
 have hlt:=h.lt
 obtain⟨v,xs,h1,h2,h3,h4,h5,h6⟩:=h
 refine⟨v,xs,h1,h2,h3,h4.away (fun i hi=> ?_),h5,fun y hy hm=>(hJ y hm).elim (h6 y hy) (fun h7=>by have:=hlt y hy;omega)⟩
 rcases List.mem_append.1 hi with hi|hi
 ·rcases List.mem_append.1 hi with hi|hi
  ·exact(hJ i hi).imp (fun h=>List.mem_append_left _ (List.mem_append_left _ h)) id
  ·exact .inl (List.mem_append_left _ (List.mem_append_right _ hi))
 ·exact .inl (List.mem_append_right _ hi)
end Go.Proofs.YtjkmahmoclobmaaGreat.sc

namespace Go.Proofs.YtjkmahmoclobmaaGreat.sc
open Go.RowKit mem base disk owns
open record (Rc RcIn RcAt)
attribute [local go_sem] Oper.semAt_some
end Go.Proofs.YtjkmahmoclobmaaGreat.sc
namespace Go.Proofs.YtjkmahmoclobmaaGreat.sc
set_option linter.unusedSimpArgs false
set_option linter.unusedVariables false
open Go.RowKit mem base disk geom owns
open record (Rc RcIn RcAt put5 put5_kept cell5)
open item (It Items)
open hd (Hd)
end Go.Proofs.YtjkmahmoclobmaaGreat.sc
namespace Go.Proofs.YtjkmahmoclobmaaGreat.sc
set_option linter.unusedVariables false
open Go.RowKit mem base disk geom
open record (Rc)
structure LogB (p:Ps)(B:Int):Prop where
 o:1≤p.o
 m:1≤p.m∧p.m≤B
 l:1≤p.l∧p.l≤B
 v:0≤p.v∧p.v≤4294967295
theorem LogB.mono {p:Ps}{B B':Int}(h:LogB p B)(hb:B≤B'):LogB p B':=⟨h.o,⟨h.m.1,by have:=h.m.2;omega⟩,⟨h.l.1,by have:=h.l.2;omega⟩,h.v⟩
theorem sum_le (R:Rc):R.sum≤4294967295:=by first|exact crc.more_le _ _|exact crcMath.more_le _ _
theorem logD_keep (a:Nat)(z:Int):∀ (rs:List Kr) (D:Dk) (p:Ps) (B:Int),Reads D→(a:Int)+z≤D.n→LogB p B→B+4*rs.length≤1900000→p.o≤z-1→z≤64→rs.length≤100→(∀ x∈rs,x.ks.length≤6)→
  Reads (logD D a z p rs).1∧(logD D a z p rs).1.n=D.n∧(logD D a z p rs).1.acts≤D.acts+8*rs.length∧LogB (logD D a z p rs).2 (B+4*rs.length)∧(logD D a z p rs).2.s=p.s∧(logD D a z p rs).2.o≤z-1
 | [],D,p,B,hR,hn,hb,hB,ho,hz,_,_=>⟨hR,rfl,by simp [logD],by simpa [logD]using hb,rfl,ho⟩
 | r::rs,D,p,B,hR,hn,hb,hB,ho,hz,hl,hk=>by
  have hm:=hb.m
  have hll:=hb.l
  have hob:=hb.o
  have a1:=Int.emod_nonneg (r.up+3) (show(7:Int)≠0 by omega)
  have a2:=Int.emod_lt_of_pos (r.up+3) (show(0:Int)<7 by omega)
  have s1:=Int.emod_nonneg (r.skew+2) (show(5:Int)≠0 by omega)
  have s2:=Int.emod_lt_of_pos (r.skew+2) (show(0:Int)<5 by omega)
  have hs:=sum_le (kmade p r)
  have hBB:B≤1900000:=by omega
  unfold logD
  by_cases hf:z-1<p.o+lenOf (kmade p r)
  ·rw[if_pos hf]
   exact⟨hR,rfl,by simp,hb.mono (by simp;omega),rfl,ho⟩
  ·rw[if_neg hf]
   have hok:=kmade_ok p r (by omega) (by omega) (hk r (by simp))
   have hlen:=kmade_len p r
   have hb1:B≤1900000:=by omega
   have hks:=hk r (by simp)
   have hl7:lenOf (kmade p r)≤7:=by unfold lenOf;omega
   rw[show(a:Int)+p.o.toNat=((a+p.o.toNat:Nat):Int)by omega]
   obtain⟨p1,p2,p3,_,_⟩:=put_reads hR (a+p.o.toNat) (kmade p r).bytes (lenOf (kmade p r)) (by omega) (Rc.bytes_len hok)
   have hb2:LogB ⟨p.s,p.o+lenOf (kmade p r),(kmade p r).l+1,((kmade p r).sum:Int),(kmade p r).m⟩ (B+4):=by
    refine⟨by dsimp only;omega,⟨?_,?_⟩,⟨?_,?_⟩,by dsimp only;omega⟩
    ·dsimp only[kmade];omega
    ·dsimp only[kmade];omega
    ·dsimp only[kmade];omega
    ·dsimp only[kmade];omega
   rw[List.length_cons]at hB
   obtain⟨i1,i2,i3,i4,i5,i6⟩:=logD_keep a z rs (putD D ((a+p.o.toNat:Nat):Int) (kmade p r).bytes) ⟨p.s,p.o+lenOf (kmade p r),(kmade p r).l+1,((kmade p r).sum:Int),(kmade p r).m⟩ (B+4) p1 (by rw[p2];exact hn) hb2 (by omega) (by dsimp only;omega) hz (by simp at hl;omega) (fun x hx=>hk x (by simp [hx]))
   refine⟨i1,by rw[i2,p2],?_,i4.mono (by simp;omega),by rw[i5],i6⟩
   rw[List.length_cons]
   omega
structure Pt where
 rs:List Kr
 nx:Int
 lost:Bool
def PtIn (w:World)(S:List Nat):List Pt→List Value→Prop
 | [],xs=>xs=[]
 | t::l,xs=>∃ A c vs rest,xs= .slice A t.rs.length c:: .int .i64 t.nx:: .bool t.lost::rest∧Vals w S A vs∧KrIn w S t.rs vs∧PtIn w S l rest
theorem PtIn.kept {w w':World}{S S':List Nat}(k:Kept S' w w')(hs:∀ i∈S',i∈S):∀ {l:List Pt} {xs:List Value},PtIn w S l xs→PtIn w' S l xs
 | [],_,h=>h
 | _::_,_,⟨A,c,vs,rest,h1,h2,h3,h4⟩=>⟨A,c,vs,rest,h1,h2.kept k hs,h3.kept k hs,h4.kept k hs⟩
theorem PtIn.away {w:World}{S S':List Nat}(hs:∀ i∈S',i∈S∨w.heap.size≤i):∀ {l:List Pt} {xs:List Value},PtIn w S l xs→PtIn w S' l xs
 | [],_,h=>h
 | _::_,_,⟨A,c,vs,rest,h1,h2,h3,h4⟩=>⟨A,c,vs,rest,h1,h2.away hs,h3.away hs,h4.away hs⟩
theorem PtIn.at_ {w:World}{S:List Nat}:∀ {l:List Pt} {xs:List Value} {k:Nat} {t:Pt},PtIn w S l xs→l[k]? = some t→∃ A c vs,Vals w S A vs∧KrIn w S t.rs vs∧xs[3*k]? = some (.slice A t.rs.length c)∧xs[3*k+1]? = some (.int .i64 t.nx)∧xs[3*k+2]? = some (.bool t.lost)
 | [],_,_,_,_,hk=>by simp at hk
 | t'::l,xs,0,t,⟨A,c,vs,rest,h1,h2,h3,h4⟩,hk=>by
  simp at hk
  subst hk
  subst h1
  exact⟨A,c,vs,h2,h3,rfl,rfl,rfl⟩
 | t'::l,xs,k+1,t,⟨A,c,vs,rest,h1,h2,h3,h4⟩,hk=>by
  obtain⟨A',c',vs',i1,i2,i3⟩:=h4.at_ (k:=k) (t:=t) (by simpa using hk)
  subst h1
  refine⟨A',c',vs',i1,i2,?_⟩
  rw[show 3*(k+1)=3*k+1+1+1 by omega]
  simpa only[List.getElem?_cons_succ,Nat.add_right_comm _ 1]using i3
theorem LogB.ok {p:Ps}{B:Int}(h:LogB p B)(hB:B≤1100000)(ho:p.o≤1000):LogOk p 0:=⟨⟨h.o,ho⟩,by have:=h.m;simp;omega,by have:=h.l;simp;omega,h.v⟩
end Go.Proofs.YtjkmahmoclobmaaGreat.sc
