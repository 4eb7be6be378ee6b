import Derived.Test.YtjkmahmoclobmaaGreatYChainTurn
import Derived.Deep.CutRange
import Derived.Test.YtjkmahmoclobmaaGreatYOrders
set_option linter.unusedVariables false
namespace Go.Proofs.YtjkmahmoclobmaaGreat.sc
open Go.RowKit mem base disk geom
open record (Rc)
structure LogB (p:Ps)(B:Int):Prop where
 o:1≤p.o
 m:1≤p.m∧p.m≤B
 l:1≤p.l∧p.l≤B
 v:0≤p.v∧p.v≤4294967295
theorem LogB.mono {p:Ps}{B B':Int}(h:LogB p B)(hb:B≤B'):LogB p B':=⟨h.o,⟨h.m.1,by have:=h.m.2;omega⟩,⟨h.l.1,by have:=h.l.2;omega⟩,h.v⟩
theorem sum_le (R:Rc):R.sum≤4294967295:=by first|exact crc.more_le _ _|exact crcMath.more_le _ _
theorem logD_keep (a:Nat)(z:Int):∀ (rs:List Kr) (D:Dk) (p:Ps) (B:Int),Reads D→(a:Int)+z≤D.n→LogB p B→B+4*rs.length≤1900000→p.o≤z-1→z≤64→rs.length≤100→(∀ x∈rs,x.ks.length≤6)→
  Reads (logD D a z p rs).1∧(logD D a z p rs).1.n=D.n∧(logD D a z p rs).1.acts≤D.acts+8*rs.length∧LogB (logD D a z p rs).2 (B+4*rs.length)∧(logD D a z p rs).2.s=p.s∧(logD D a z p rs).2.o≤z-1
 | [],D,p,B,hR,hn,hb,hB,ho,hz,_,_=>⟨hR,rfl,by simp [logD],by simpa [logD]using hb,rfl,ho⟩
 | r::rs,D,p,B,hR,hn,hb,hB,ho,hz,hl,hk=>by
  have hm:=hb.m;have hll:=hb.l;have hob:=hb.o;have a1:=Int.emod_nonneg (r.up+3) (show(7:Int)≠0 by omega);have a2:=Int.emod_lt_of_pos (r.up+3) (show(0:Int)<7 by omega);have s1:=Int.emod_nonneg (r.skew+2) (show(5:Int)≠0 by omega);have s2:=Int.emod_lt_of_pos (r.skew+2) (show(0:Int)<5 by omega);have hs:=sum_le (kmade p r)
  have hBB:B≤1900000:=by omega
  unfold logD
  by_cases hf:z-1<p.o+lenOf (kmade p r)
  ·rw[if_pos hf];exact⟨hR,rfl,by simp,hb.mono (by simp;omega),rfl,ho⟩
  ·rw[if_neg hf];have hok:=kmade_ok p r (by omega) (by omega) (hk r (by simp));have hlen:=kmade_len p r
   have hb1:B≤1900000:=by omega
   have hks:=hk r (by simp)
   have hl7:lenOf (kmade p r)≤7:=by unfold lenOf;omega
   rw[show(a:Int)+p.o.toNat=((a+p.o.toNat:Nat):Int)by omega];obtain⟨p1,p2,p3,_,_⟩:=put_reads hR (a+p.o.toNat) (kmade p r).bytes (lenOf (kmade p r)) (by omega) (Rc.bytes_len hok)
   have hb2:LogB ⟨p.s,p.o+lenOf (kmade p r),(kmade p r).l+1,((kmade p r).sum:Int),(kmade p r).m⟩ (B+4):=by
    refine⟨by dsimp only;omega,⟨?_,?_⟩,⟨?_,?_⟩,by dsimp only;omega⟩
    ·dsimp only[kmade];omega
    ·dsimp only[kmade];omega
    ·dsimp only[kmade];omega
    ·dsimp only[kmade];omega
   rw[List.length_cons]at hB;obtain⟨i1,i2,i3,i4,i5,i6⟩:=logD_keep a z rs (putD D ((a+p.o.toNat:Nat):Int) (kmade p r).bytes) ⟨p.s,p.o+lenOf (kmade p r),(kmade p r).l+1,((kmade p r).sum:Int),(kmade p r).m⟩ (B+4) p1 (by rw[p2];exact hn) hb2 (by omega) (by dsimp only;omega) hz (by simp at hl;omega) (fun x hx=>hk x (by simp [hx]));refine⟨i1,by rw[i2,p2],?_,i4.mono (by simp;omega),by rw[i5],i6⟩;rw[List.length_cons]
   omega
structure Pt where
 rs:List Kr
 nx:Int
 lost:Bool
def PtIn (w:World)(S:List Nat):List Pt→List Value→Prop
 | [],xs=>xs=[]
 | t::l,xs=>∃ A c vs rest,xs= .slice A t.rs.length c:: .int .i64 t.nx:: .bool t.lost::rest∧Vals w S A vs∧KrIn w S t.rs vs∧PtIn w S l rest
theorem PtIn.kept {w w':World}{S S':List Nat}(k:Kept S' w w')(hs:∀ i∈S',i∈S):∀ {l:List Pt} {xs:List Value},PtIn w S l xs→PtIn w' S l xs
 | [],_,h=>h
 | _::_,_,⟨A,c,vs,rest,h1,h2,h3,h4⟩=>⟨A,c,vs,rest,h1,h2.kept k hs,h3.kept k hs,h4.kept k hs⟩
theorem PtIn.away {w:World}{S S':List Nat}(hs:∀ i∈S',i∈S∨w.heap.size≤i):∀ {l:List Pt} {xs:List Value},PtIn w S l xs→PtIn w S' l xs
 | [],_,h=>h
 | _::_,_,⟨A,c,vs,rest,h1,h2,h3,h4⟩=>⟨A,c,vs,rest,h1,h2.away hs,h3.away hs,h4.away hs⟩
theorem PtIn.at_ {w:World}{S:List Nat}:∀ {l:List Pt} {xs:List Value} {k:Nat} {t:Pt},PtIn w S l xs→l[k]? = some t→∃ A c vs,Vals w S A vs∧KrIn w S t.rs vs∧xs[3*k]? = some (.slice A t.rs.length c)∧xs[3*k+1]? = some (.int .i64 t.nx)∧xs[3*k+2]? = some (.bool t.lost)
 | [],_,_,_,_,hk=>by simp at hk
 | t'::l,xs,0,t,⟨A,c,vs,rest,h1,h2,h3,h4⟩,hk=>by
  simp at hk;subst hk;subst h1;exact⟨A,c,vs,h2,h3,rfl,rfl,rfl⟩
 | t'::l,xs,k+1,t,⟨A,c,vs,rest,h1,h2,h3,h4⟩,hk=>by
  obtain⟨A',c',vs',i1,i2,i3⟩:=h4.at_ (k:=k) (t:=t) (by simpa using hk);subst h1;refine⟨A',c',vs',i1,i2,?_⟩;rw[show 3*(k+1)=3*k+1+1+1 by omega]
  simpa only[List.getElem?_cons_succ,Nat.add_right_comm _ 1]using i3
def fst (l r q:Int)(i:Int):Nat:=(2+2*r+4*q+i*l).toNat
def laidL (s l r q:Int):Dk→Ps→List Pt→Dk×Ps
 | D,p,[]=>(D,p)
 | D,p,[t]=>logD D (fst l r q p.s) l p t.rs
 | D,p,t::u::ts=>
  if t.lost then turnD (logD D (fst l r q p.s) l p t.rs).1 (fst l r q p.s) (fst l r q (t.nx%s)) (logD D (fst l r q p.s) l p t.rs).2 (t.nx%s) false
  else laidL s l r q (turnD (logD D (fst l r q p.s) l p t.rs).1 (fst l r q p.s) (fst l r q (t.nx%s)) (logD D (fst l r q p.s) l p t.rs).2 (t.nx%s) true).1 (turnD (logD D (fst l r q p.s) l p t.rs).1 (fst l r q p.s) (fst l r q (t.nx%s)) (logD D (fst l r q p.s) l p t.rs).2 (t.nx%s) true).2 (u::ts)
theorem turnD_keep {D:Dk}(hR:Reads D){a a2:Nat}{p:Ps}{nx z B:Int}(hb:Bool)(hn:(a:Int)+z≤D.n)(hn2:a2+1≤D.n)(hB:LogB p B)(hBB:B≤1900000)(ho:p.o≤z-1)(hnx:0≤nx∧nx≤31):
  Reads (turnD D a a2 p nx hb).1∧(turnD D a a2 p nx hb).1.n=D.n∧(turnD D a a2 p nx hb).1.acts≤D.acts+4∧(turnD D a a2 p nx hb).2.s=nx∧(hb=true→LogB (turnD D a a2 p nx hb).2 (B+1)∧(turnD D a a2 p nx hb).2.o=1)∧(hb=false→(turnD D a a2 p nx hb).2.o=0):=by
 have hm:=hB.m;have hl:=hB.l;have ho1:=hB.o;have hs:=sum_le (nextR p nx);have hok:=nextR_ok p nx (by omega) (by omega) hB.v (by omega);obtain⟨p1,p2,p3,_,_⟩:=put_reads hR (a+p.o.toNat) (nextR p nx).bytes 1 (by omega) (Rc.bytes_len hok);unfold turnD
 cases hb with
 | false=>
  refine⟨p1,p2,?_,rfl,by simp,fun _=>rfl⟩
  show(putD D ((a+p.o.toNat:Nat):Int) (nextR p nx).bytes).acts≤_
  rw[p3]
  omega
 | true=>
  obtain⟨q1,q2,q3,_,_⟩:=put_reads p1 a2 (headOf (turnTo p nx)).bytes 1 (by rw[p2];exact hn2) (hd.Hd.bytes_len _);refine⟨q1,q2.trans p2,?_,rfl,fun _=>⟨⟨?_,⟨hm.1,?_⟩,⟨?_,?_⟩,?_⟩,rfl⟩,by simp⟩
  ·show(putD (putD D ((a+p.o.toNat:Nat):Int) (nextR p nx).bytes) (a2:Int) (headOf (turnTo p nx)).bytes).acts≤_
   rw[q3,p3]
   omega
  ·exact Int.le_refl 1
  ·show p.m≤B+1
   omega
  ·show 1≤p.l+1
   omega
  ·show p.l+1≤B+1
   omega
  ·show 0≤((nextR p nx).sum:Int)∧((nextR p nx).sum:Int)≤4294967295
   omega
theorem fst_eq {b s l r q i:Int}(hf:geom.Rf b s l r q)(hi:0≤i):(fst l r q i:Int)=2+2*r+4*q+i*l:=by
 have hb:=geom.bounds_of hf.ok hf.hr hf.hq;have ho:=hf.ok;unfold geom.Ok at ho
 have:=Int.mul_nonneg hi (show(0:Int)≤l by omega)
 unfold fst
 omega
theorem fst_room {b s l r q i:Int}(hf:geom.Rf b s l r q)(hi:0≤i∧i≤s-1):(fst l r q i:Int)+l≤2+2*r+4*q+s*l:=by
 have ho:=hf.ok;unfold geom.Ok at ho;rw[fst_eq hf hi.1];have h1:(i+1)*l≤s*l:=Int.mul_le_mul_of_nonneg_right (by omega) (by omega)
 have h2:(i+1)*l=i*l+l:=by rw[Int.add_mul];omega
 omega
theorem LogB.ok {p:Ps}{B:Int}(h:LogB p B)(hB:B≤1100000)(ho:p.o≤1000):LogOk p 0:=⟨⟨h.o,ho⟩,by have:=h.m;simp;omega,by have:=h.l;simp;omega,h.v⟩
def laidP (s l r q:Int)(D:Dk)(p:Ps)(ts:List Pt):Dk×Ps:=laidL s l r q (putD D (fst l r q p.s:Int) (headOf p).bytes) ⟨p.s,1,p.l,p.v,p.m⟩ ts
end Go.Proofs.YtjkmahmoclobmaaGreat.sc

namespace Go.Proofs.YtjkmahmoclobmaaGreat.sc
set_option linter.unusedSimpArgs false
open Go.RowKit mem base disk geom owns
open record (Rc RcIn RcAt put5 put5_kept cell5)
open item (It Items)
section
variable {wr wr' w:World}{F G:List Nat}{d rd y Z:Nat}{b s l:Int}{E E':Dk}{x x':Ps}{F1 G1:List Nat}{A:Option Addr}{pts:List Pt}{xs:List Value}
theorem LS.put (h:LS wr w F G d rd y (y+1) (y+1+1) Z b s l E x F1 G1)(t:DdTo wr wr' F1 d G1 rd E')(hy:y+1+1<Z)(hFG:∀ i∈F++G,i<y)(hZ:w.heap.size≤Z):
  ∃ F2 G2,LS wr' w F G d rd y (y+1) (y+1+1) Z b s l E' x F2 G2∧Kept (F1++G1) wr wr'∧(∀ i∈F2++G2,i∈F1++G1∨wr.heap.size≤i):=by
 obtain⟨F2,G2,h1,h2,h3⟩:=t;have hn:∀ i,(i=y∨i=y+1∨i=y+1+1)→i∉F1++G1:=fun i hi hm=>(h.sub i hm).elim (fun h4=>by have:=hFG i h4;omega) (fun h4=>by omega);exact⟨F2,G2,⟨h1,fun i hi=>(h2 i hi).elim (h.sub i) (fun h4=> .inr (Nat.le_trans h.size h4)),h3.blk h.c (hn _ (by simp)),h3.blk h.p (hn _ (by simp)),h3.blk h.q (hn _ (by simp)),h.kept.trans h3 (fun i hi=>(h.sub i hi).imp id (fun h4=>by omega)),Nat.le_trans h.size h3.size⟩,h3,h2⟩
theorem LS.keepS (h:LS wr w F G d rd y (y+1) (y+1+1) Z b s l E x F1 G1){S:List Nat}(k:Kept S wr wr')(hS:∀ i∈S,i∉F1++G1∧i≠y∧i≠y+1∧i≠y+1+1∧w.heap.size≤i):LS wr' w F G d rd y (y+1) (y+1+1) Z b s l E x F1 G1:=
 ⟨h.dd.kept k (fun i hi hm=>(hS i hm).1 (List.mem_append_left _ hi)) (fun i hi hm=>(hS i hm).1 (List.mem_append_right _ hi)),h.sub,k.blk h.c (fun hm=>(hS _ hm).2.1 rfl),k.blk h.p (fun hm=>(hS _ hm).2.2.1 rfl),k.blk h.q (fun hm=>(hS _ hm).2.2.2.1 rfl),h.kept.trans k (fun i hi=> .inr (hS i hi).2.2.2.2),Nat.le_trans h.size k.size⟩
theorem LS.place (h:LS wr w F G d rd y (y+1) (y+1+1) Z b s l E x F1 G1)(k:Kept [y+1] wr wr')(hb:Blk wr' (y+1) 24 #[.int .i64 x'.s,.int .i64 x'.o,.int .i64 x'.l,.int .i64 x'.v,.int .i64 x'.m])(hy:w.heap.size≤y)(hYZ:y+1+1<Z)(hFG:∀ i∈F++G,i<y):
  LS wr' w F G d rd y (y+1) (y+1+1) Z b s l E x' F1 G1:=by
 have hn:y+1∉F1++G1:=fun hm=>(h.sub _ hm).elim (fun h4=>by have:=hFG _ h4;omega) (fun h4=>by omega);exact⟨h.dd.kept k (fun i hi hm=>by simp at hm;subst hm;exact hn (List.mem_append_left _ hi)) (fun i hi hm=>by simp at hm;subst hm;exact hn (List.mem_append_right _ hi)),h.sub,k.blk h.c (by simp),hb,k.blk h.q (by simp),h.kept.trans k (fun i hi=>by simp at hi;subst hi;exact .inr (by omega)),Nat.le_trans h.size k.size⟩
theorem LS.vals (h:LS wr w F G d rd y (y+1) (y+1+1) Z b s l E x F1 G1)(hZ:w.heap.size≤Z)(hv:Vals w (F++G) A xs):Vals wr (F1++G1) A xs:=
 ((hv.away (S':=(F++G)++(F1++G1)) (fun i hi=>(List.mem_append.1 hi).elim .inl (fun h1=>(h.sub i h1).imp id (fun h2=>by omega)))).kept h.kept (fun i hi=>List.mem_append_left _ hi)).mono (fun i hi=>List.mem_append_right _ hi)
theorem LS.parts (h:LS wr w F G d rd y (y+1) (y+1+1) Z b s l E x F1 G1)(hZ:w.heap.size≤Z)(hv:PtIn w (F++G) pts xs):PtIn wr (F1++G1) pts xs:=
 ((hv.away (S':=(F++G)++(F1++G1)) (fun i hi=>(List.mem_append.1 hi).elim .inl (fun h1=>(h.sub i h1).imp id (fun h2=>by omega)))).kept h.kept (fun i hi=>List.mem_append_left _ hi)).away (fun i hi=> .inl (List.mem_append_right _ hi))
theorem LS.ret (h:LS wr w F G d rd y (y+1) (y+1+1) Z b s l E x F1 G1)(k:Kept [y+1+1] wr wr')(hy:w.heap.size≤y)(hYZ:y+1+1<Z)(hFG:∀ i∈F++G,i<y)(hZ:w.heap.size≤Z):DdTo w wr' F d G rd E:=by
 have hn:y+1+1∉F1++G1:=fun hm=>(h.sub _ hm).elim (fun h4=>by have:=hFG _ h4;omega) (fun h4=>by omega);exact⟨F1,G1,h.dd.kept k (fun i hi hm=>by simp at hm;subst hm;exact hn (List.mem_append_left _ hi)) (fun i hi hm=>by simp at hm;subst hm;exact hn (List.mem_append_right _ hi)),fun i hi=>(h.sub i hi).imp id (fun h4=>by omega),h.kept.trans k (fun i hi=> .inr (by simp at hi;omega))⟩
structure Lg6 (wr W w:World)(F G:List Nat)(d rd y Z:Nat)(b s l:Int)(E:Dk)(x:Ps)(F2 G2:List Nat)(o14:Option Nat):Prop where
 ls:LS W w F G d rd y (y+1) (y+1+1) Z b s l E x F2 G2
 bx:∀ i,o14=some i→Blk W i 24 #[.int .i64 0,.int .i64 0,.int .i64 0,.int .i64 0,.int .i64 0]∧i∉F2++G2∧y+1+1<i
theorem Lg6.a {W:World}{F2 G2:List Nat}(h:Lg6 wr W w F G d rd y Z b s l E x F2 G2 none)(hy:y+1+1<Z):Lg6 wr (W.alloc (.cells #[.int .i64 0,.int .i64 0,.int .i64 0,.int .i64 0,.int .i64 0] 24)) w F G d rd y Z b s l E x F2 G2 (some W.heap.size):=
 ⟨h.ls.keep ((Kept.refl [] W).alloc _),fun i hi=>by
  injection hi with hi;subst hi
  exact⟨Blk.new W _ _,fun hm=>by have:=h.ls.dd.lt _ hm;omega,by have:=h.ls.size;omega⟩⟩
theorem Lg6.c {W W':World}{o14:Option Nat}(h:Lg6 wr W w F G d rd y Z b s l E x F1 G1 o14)(t:DdTo W W' F1 d G1 rd E')(hy:y+1+1<Z)(hFG:∀ i∈F++G,i<y)(hZ:w.heap.size≤Z):∃ F2 G2,Lg6 wr W' w F G d rd y Z b s l E' x F2 G2 o14:=by
 obtain⟨F2,G2,h1,h2,h3⟩:=h.ls.put t hy hFG hZ;refine⟨F2,G2,h1,fun i hi=> ?_⟩;obtain⟨g1,g2,g3⟩:=h.bx i hi;exact⟨h2.blk g1 g2,fun hm=>(h3 i hm).elim g2 (fun h4=>by have:=g1.lt;omega),g3⟩
theorem Lg6.ex {W:World}{F2 G2:List Nat}{o14:Option Nat}(h:Lg6 wr W w F G d rd y Z b s l E x F2 G2 o14):∃ wm,W=wm∧Lg6 wr wm w F G d rd y Z b s l E x F2 G2 o14:=⟨W,rfl,h⟩
theorem LS.fieldAt (h:LS wr w F G d rd y (y+1) (y+1+1) Z b s l E x F1 G1)(hZ:w.heap.size≤Z){ad:Addr}(hv:Vals w (F++G) (some ad) xs){j k:Nat}(hk:0<k){v:Value}(hi:xs[3*j+k]? = some v):wr.cell? ⟨(ad.add (j*3)).block,(ad.add (j*3)).off+k,none⟩=some v:=by
 obtain⟨ad2,ha2,_,hc2⟩:=(h.vals hZ hv) _ _ hi;injection ha2 with ha2;subst ha2;rw[item.add_field _ _ _ hk,show 3*j=j*3 by omega]at hc2;exact hc2
theorem turn_ok {D E E1:Dk}{x x1:Ps}{b s l r q nx:Int}{j len:Nat}(hf:geom.Rf b s l r q)(hs:1≤s∧s≤32∧24≤l∧l≤64)(hx:0≤x.s∧x.s≤s-1)(hnx:0≤nx∧nx≤s-1)(hk:Reads E1∧E1.n=E.n∧E1.acts≤E.acts+8*len∧LogB x1 (1050000+401*j+4*len)∧x1.s=x.s∧x1.o≤l-1)(hlen:len≤100)(hj:j≤10)(hE:Reads E∧E.n=D.n∧E.acts≤2000+900*j)(hD:2+2*r+4*q+s*l≤D.n):
  (2+2*r+4*q+x1.s*l=(fst l r q x.s:Int)∧(fst l r q x.s:Int)+l≤E1.n)∧(2+2*r+4*q+nx*l=(fst l r q nx:Int)∧(fst l r q nx:Int)+1≤E1.n)∧(0≤x1.s∧x1.s≤s-1)∧((1≤x1.o∧x1.o+1≤l)∧(1≤x1.m∧x1.m≤2000000)∧(1≤x1.l∧x1.l≤2000000)∧(0≤x1.v∧x1.v≤4294967295))∧E1.acts≤800000∧
  (∀ hb,Reads (turnD E1 (fst l r q x.s) (fst l r q nx) x1 nx hb).1∧(turnD E1 (fst l r q x.s) (fst l r q nx) x1 nx hb).1.n=D.n∧(turnD E1 (fst l r q x.s) (fst l r q nx) x1 nx hb).1.acts≤2000+900*(j+1)∧(turnD E1 (fst l r q x.s) (fst l r q nx) x1 nx hb).2.s=nx∧(hb=true→LogB (turnD E1 (fst l r q x.s) (fst l r q nx) x1 nx hb).2 (1050000+401*((j+1:Nat):Int))∧(turnD E1 (fst l r q x.s) (fst l r q nx) x1 nx hb).2.o=1)∧(hb=false→(turnD E1 (fst l r q x.s) (fst l r q nx) x1 nx hb).2.o=0)):=by
 obtain⟨k1,k2,k3,k4,k5,k6⟩:=hk;have e1:=fst_eq hf hx.1;have e2:=fst_room hf hx;have e3:=fst_eq hf hnx.1;have e4:=fst_room hf hnx;have o1:=k4.o;have o2:=k4.m;have o3:=k4.l;have h2:=hE.2.1;have h3:=hE.2.2;refine⟨⟨by rw[k5,e1],by omega⟩,⟨by rw[e3],by omega⟩,by rw[k5];exact hx,⟨by omega,by omega,by omega,k4.v⟩,by omega,fun hb=> ?_⟩;obtain⟨t1,t2,t3,t4,t5,t6⟩:=turnD_keep (z:=l) (nx:=nx) (a:=fst l r q x.s) (a2:=fst l r q nx) (p:=x1) (B:=1050000+401*j+4*len) k1 hb (by omega) (by omega) k4 (by omega) k6 (by omega);exact⟨t1,by omega,by omega,t4,fun h=>⟨(t5 h).1.mono (by omega),(t5 h).2⟩,t6⟩
end
set_option maxRecDepth 100000 in
set_option maxHeartbeats 8000000 in
theorem laid_any (F G:List Nat)(d rd:Nat)(D:Dk)(p:Ps)(b s l r q:Int)(A:Option Addr)(n c:Nat)(pts:List Pt)(xs:List Value)(w:World)(h:Dd w F d G rd D)(hR:Reads D)(hf:geom.Rf b s l r q)(hi:0≤p.s∧p.s≤s-1)(hn:2+2*r+4*q+s*l≤D.n)(hac:D.acts≤1000)
  (hm:1≤p.m∧p.m≤1050000) (hl:1≤p.l∧p.l≤1050000) (hvv:0≤p.v∧p.v≤4294967295) (hpl:pts.length=n) (hn8:n≤10) (hk:∀ t∈pts,t.rs.length≤100∧∀ x∈t.rs,x.ks.length≤6∧(-1000≤x.up∧x.up≤1000)∧(-1000≤x.skew∧x.skew≤1000)) (hv:Vals w (F++G) A xs) (hp:PtIn w (F++G) pts xs):
  Calls Tryz.prog 31 #[.pointer (some ⟨d,0,none⟩),.pointer (some ⟨rd,0,none⟩),.agg #[.int .i64 b,.int .i64 s,.int .i64 l],.agg #[.int .i64 p.s,.int .i64 p.o,.int .i64 p.l,.int .i64 p.v,.int .i64 p.m],.slice A n c] w fun e w'=>e= .returned (.tuple #[(laidP s l r q D p pts).2.val,.bool true])∧DdTo w w' F d G rd (laidP s l r q D p pts).1:=by
 obtain⟨y,hy⟩:∃ y,w.heap.size=y:=⟨_,rfl⟩;obtain⟨w0,hw0⟩:∃ w0,((w.alloc (.cells #[.int .i64 b,.int .i64 s,.int .i64 l] 29)).alloc (.cells #[.int .i64 p.s,.int .i64 p.o,.int .i64 p.l,.int .i64 p.v,.int .i64 p.m] 24)).alloc (.cells #[.int .i64 0,.int .i64 0,.int .i64 0,.int .i64 0,.int .i64 0] 24)=w0:=⟨_,rfl⟩
 have hk0:Kept [] w w0:=by rw[←hw0];exact(((Kept.refl [] w).alloc _).alloc _).alloc _
 have hb7:Blk w0 y 29 #[.int .i64 b,.int .i64 s,.int .i64 l]:=by rw[←hw0,←hy];exact((Blk.new w _ _).alloc _).alloc _
 have hb8:Blk w0 (y+1) 24 #[.int .i64 p.s,.int .i64 p.o,.int .i64 p.l,.int .i64 p.v,.int .i64 p.m]:=by
  rw[←hw0,←hy,←World.size_alloc w (.cells #[.int .i64 b,.int .i64 s,.int .i64 l] 29)];exact(Blk.new _ _ _).alloc _
 have hb10:Blk w0 (y+1+1) 24 #[.int .i64 0,.int .i64 0,.int .i64 0,.int .i64 0,.int .i64 0]:=by
  rw[←hw0,←hy,←World.size_alloc w (.cells #[.int .i64 b,.int .i64 s,.int .i64 l] 29),←World.size_alloc _ (.cells #[.int .i64 p.s,.int .i64 p.o,.int .i64 p.l,.int .i64 p.v,.int .i64 p.m] 24)];exact Blk.new _ _ _
 obtain⟨Z,hZ⟩:∃ Z,w0.heap.size=Z:=⟨_,rfl⟩;have HSEP:=hide (show w.heap.size=y∧y+1+1<Z by have:=hb10.lt;omega);have HLT:=hide (show ∀ i∈F++G,i<y by intro i hi;have:=h.lt i hi;omega);have HLS:Hid (LS w0 w F G d rd y (y+1) (y+1+1) Z b s l D p F G):=hide ⟨h.kept hk0 (by simp) (by simp),fun x hx=> .inl hx,hb7,hb8,hb10,hk0.mono (by simp),Nat.le_of_eq hZ.symm⟩;have HV0:=hide hv;have HP0:=hide hp;have HZW:=hide (show w.heap.size≤Z by have:=hk0.size;omega);have HF:=hide hf;have hok:=hf.ok;unfold geom.Ok at hok;have HOKS:=hide (show 1≤s∧s≤32∧24≤l∧l≤64 by omega);have hpf:=fst_eq hf hi.1;have hpr:=fst_room hf hi;have HPS:=hide hi;have HPL:=hide hpl;have HKK:=hide hk;have HDN:=hide (show 2+2*r+4*q+s*l≤D.n from hn);have HHM:=hide (head_may p (by omega) (by omega) (by omega) hvv);have HPR:=hide (put_reads hR (fst l r q p.s) (headOf p).bytes 1 (by omega) (hd.Hd.bytes_len _));have HFP:=hide (show 2+2*r+4*q+p.s*l=(fst l r q p.s:Int)∧fst l r q p.s+1≤D.n from⟨hpf.symm,by omega⟩);have HRD:=hide hR;have HAC:=hide hac;have HLB:Hid (LogB ⟨p.s,1,p.l,p.v,p.m⟩ 1050000):=hide ⟨by show(1:Int)≤1;omega,hm,hl,hvv⟩;have HRES:Seal (laidP s l r q D p pts=laidL s l r q (putD D (fst l r q p.s:Int) (headOf p).bytes) ⟨p.s,1,p.l,p.v,p.m⟩ (pts.drop 0)):=sealed rfl;obtain⟨RES,hRES⟩:∃ RES,laidP s l r q D p pts=RES:=⟨_,rfl⟩;rw[hRES]at HRES ⊢;obtain⟨c0,c1,c2⟩:w0.cell? ⟨y,0,none⟩=some (.int .i64 b)∧w0.cell? ⟨y,1,none⟩=some (.int .i64 s)∧w0.cell? ⟨y,2,none⟩=some (.int .i64 l):=⟨hb7.cell 0,hb7.cell 1,hb7.cell 2⟩;obtain⟨p0,p1,p2,p3,p4⟩:=cell5 hb8
 clear hk0 hb7 hb8 hb10 h hR hf hi hn hac hm hl hvv hpl hk hv hp hRES hZ hok hpf hpr;go_enter Tryz.func31,Tryz.ntmps31;go_wp2_with fail;refine(khead_any F G d rd D p b s l r q (fst l r q p.s) _ HLS.out.dd HRD.out HF.out HPS.out HHM.out HFP.out.1 HFP.out.2 (by have:=HAC.out;omega)).mono ?_;rintro e w1 ⟨rfl,hdd⟩;obtain⟨F1,G1,hls,hk1,hs1⟩:=HLS.out.put hdd HSEP.out.2 HLT.out HZW.out;have HL1:=hide hls;clear hdd hls hk1 hs1 HLS c0 c1 c2 p0 p1 p2 p3 p4;obtain⟨p0,p1,p2,p3,p4⟩:=cell5 HL1.out.p;have f8:=HL1.out.p.frozen;have HBP:=hide (Blk.set_ HL1.out.p 1 (.int .i64 1));have HKP:=hide ((Kept.refl [y+1] w1).set_ (b:=y+1) (.inl (by simp)) 1 (.int .i64 1));have HL2:Hid (LS (w1.setCell ⟨y+1,1,none⟩ (.int .i64 1)) w F G d rd y (y+1) (y+1+1) Z b s l (putD D (fst l r q p.s:Int) (headOf p).bytes) ⟨p.s,1,p.l,p.v,p.m⟩ F1 G1):=hide (HL1.out.place HKP.out HBP.out (Nat.le_of_eq HSEP.out.1) HSEP.out.2 HLT.out);go_wp2;generalize w1.setCell ⟨y+1,1,none⟩ (.int .i64 1)=w2 at HL2 ⊢;clear p0 p1 p2 p3 p4 f8 HBP HKP HL1
 go_loopw [12,13] (fun ok i wr=>∃ (j:Nat) (E:Dk) (x:Ps) (F1 G1:List Nat),j≤n∧ok= .bool true∧i= .int .i64 j∧Hid (LS wr w F G d rd y (y+1) (y+1+1) Z b s l E x F1 G1)∧Seal (RES=laidL s l r q E x (pts.drop j))∧Hid (LogB x (1050000+401*j)∧x.o=1)∧Hid (0≤x.s∧x.s≤s-1)∧Hid (Reads E∧E.n=D.n∧E.acts≤2000+900*j)) (fun ok i wr=>n-(intOf i).toNat)
 case atStart=>exact⟨0,_,_,F1,G1,Nat.zero_le _,rfl,rfl,HL2,HRES,hide ⟨HLB.out,rfl⟩,hide HPS.out,hide ⟨HPR.out.1,HPR.out.2.1,by have h1:=HPR.out.2.2.1;have h2:=HAC.out;omega⟩⟩
 case round=>
  obtain⟨j,E,x,F1,G1,hj,rfl,rfl,HLr,HRr,HBr,HSr,HDr⟩:=hrel;clear HL2 HRES HPR HLB HPS
  by_cases hlt:j<n
  ·obtain⟨t,ht⟩:∃ t,pts[j]? = some t:=⟨_,List.getElem?_eq_getElem (by rw[HPL.out];exact hlt)⟩;obtain⟨Ka,kc,vs,hKa,hKr,i0,i1,i2⟩:=(HLr.out.parts HZW.out HP0.out).at_ ht;obtain⟨ad,rfl,hna,j0⟩:=(HLr.out.vals HZW.out HV0.out) _ _ i0;obtain⟨_,e1,_,j1⟩:=(HLr.out.vals HZW.out HV0.out) _ _ i1;cases e1;obtain⟨_,e2,_,j2⟩:=(HLr.out.vals HZW.out HV0.out) _ _ i2;cases e2;rw[item.add_field _ _ _ (by omega)]at j1 j2;rw[show 3*j=j*3 by omega]at j0 j1 j2;have HKA:=hide hKa;have HKR:=hide hKr;have HTK:=hide (HKK.out t (List.mem_of_getElem? ht))
   have hdrop:pts.drop j=t::pts.drop (j+1):=by
    obtain⟨h1,h2⟩:=List.getElem?_eq_some_iff.1 ht;rw[List.drop_eq_getElem_cons h1,h2]
   have HDRP:=sealed hdrop;have HNA:=hide hna;have hfx:=fst_eq HF.out HSr.out.1;have hfr:=fst_room HF.out HSr.out;have HFX:=hide (show 2+2*r+4*q+x.s*l=(fst l r q x.s:Int)∧(fst l r q x.s:Int)+l≤E.n from⟨hfx.symm,by have h1:=HDr.out.2.1;have h2:=HDN.out;omega⟩);have hj4:LogOk x 0:=HBr.out.1.ok (by omega) (by have:=HBr.out.2;omega);have HLO:=hide hj4;have HKP:=hide (logD_keep (fst l r q x.s) l t.rs E x (1050000+401*j) HDr.out.1 HFX.out.2 HBr.out.1 (by have:=HTK.out.1;omega) (by have h1:=HBr.out.2;have h2:=HOKS.out;omega) (by have:=HOKS.out;omega) HTK.out.1 (fun z hz=>(HTK.out.2 z hz).1));clear ht hKa hKr hdrop hna hfx hfr hj4
   have HALL:=hide (show ∀ W E F2 G2,LS W w F G d rd y (y+1) (y+1+1) Z b s l E x F2 G2→(fun W=>(W.cell? ⟨y,0,none⟩=some (.int .i64 b)∧W.cell? ⟨y,1,none⟩=some (.int .i64 s)∧W.cell? ⟨y,2,none⟩=some (.int .i64 l))∧(W.cell? ⟨y+1,0,none⟩=some (.int .i64 x.s)∧W.cell? ⟨y+1,1,none⟩=some (.int .i64 x.o)∧W.cell? ⟨y+1,2,none⟩=some (.int .i64 x.l)∧W.cell? ⟨y+1,3,none⟩=some (.int .i64 x.v)∧W.cell? ⟨y+1,4,none⟩=some (.int .i64 x.m))∧W.cell? (ad.add (j*3))=some (.slice Ka t.rs.length kc)) W from fun W E F2 G2 hh=>⟨⟨hh.c.cell 0,hh.c.cell 1,hh.c.cell 2⟩,cell5 hh.p,by
    obtain⟨ad2,ha2,_,hc2⟩:=(hh.vals HZW.out HV0.out) _ _ i0;injection ha2 with ha2;subst ha2;rw[show 3*j=j*3 by omega]at hc2
    exact hc2⟩)
   clear i0;obtain⟨x1,hx1⟩:∃ x1,(logD E (fst l r q x.s) l x t.rs).2=x1:=⟨_,rfl⟩;obtain⟨E1,hE1⟩:∃ E1,(logD E (fst l r q x.s) l x t.rs).1=E1:=⟨_,rfl⟩;have HX1:=sealed hx1;have HE1:=sealed hE1;rw[hx1,hE1]at HKP;clear hx1 hE1;have HR:Hid (Lg6 wr wr.drew w F G d rd y Z b s l E x F1 G1 none):=hide ⟨HLr.out.keep (Kept.refl [] wr).drew,by simp⟩;have HKC:=hide ((Kept.refl [] wr).drew);go_wp2
   go_cut [14,15]from 28 to 40 (fun p14 p15 wx=>∃ (b14:Nat) (F2 G2:List Nat),p14= .pointer (some ⟨b14,0,none⟩)∧p15= .bool true∧Hid (LS wx w F G d rd y (y+1) (y+1+1) Z b s l E1 x F2 G2)∧Hid (Blk wx b14 24 #[.int .i64 x1.s,.int .i64 x1.o,.int .i64 x1.l,.int .i64 x1.v,.int .i64 x1.m])∧Hid (b14∉F2++G2∧y+1+1<b14))
   case first=>
    refine wp_region_noPanic ?_;refine wp_region_held_drew (S:=fun W=>(W.cell? ⟨y,0,none⟩=some (.int .i64 b)∧W.cell? ⟨y,1,none⟩=some (.int .i64 s)∧W.cell? ⟨y,2,none⟩=some (.int .i64 l))∧(W.cell? ⟨y+1,0,none⟩=some (.int .i64 x.s)∧W.cell? ⟨y+1,1,none⟩=some (.int .i64 x.o)∧W.cell? ⟨y+1,2,none⟩=some (.int .i64 x.l)∧W.cell? ⟨y+1,3,none⟩=some (.int .i64 x.v)∧W.cell? ⟨y+1,4,none⟩=some (.int .i64 x.m))∧W.cell? (ad.add (j*3))=some (.slice Ka t.rs.length kc)) (by kernel_rfl) (by exact HALL.out _ _ _ _ HR.out.ls) (fun hHeld=> ?_);refine tK 0 29 rfl ?_;refine tK 1 30 rfl ?_;refine tK 2 31 rfl ?_;refine tK 3 32 rfl ?_;refine tK 4 33 rfl ?_;refine tK 5 34 rfl ?_;refine tK 6 35 rfl ?_;refine tK 7 36 rfl ?_;refine tK 8 37 rfl ?_;refine next_two (i:=9) (j:=13) (o:=⟨some 38,_,_,_,_,_⟩) (o':=⟨some 14,_,_,_,_,_⟩) (by kernel_rfl) rfl (by rfl) rfl (by rfl) (fun K hK=> ?_) (fun K hK=> ?_)
    ·(try generalize wr.drew=wd at HR hHeld HKC ⊢)
     go_simp;refine(klog_any F1 G1 d rd E x b s l r q (fst l r q x.s) Ka t.rs.length kc t.rs vs _ HR.out.ls.dd HDr.out.1 HF.out HSr.out HFX.out.1 HFX.out.2 (by have:=HDr.out.2.2;omega) HLO.out rfl HTK.out.1 HTK.out.2 (HKA.out.kept HKC.out (by simp)) (HKR.out.kept HKC.out (by simp))).mono ?_;rw[HX1.out,HE1.out];rintro e wn ⟨rfl,hdd⟩;obtain⟨F2,G2,hg6⟩:=HR.out.c hdd HSEP.out.2 HLT.out HZW.out;have HR:=hide hg6;clear hdd hg6;unfold Ps.val;refine hK _ _ (by exact HALL.out _ _ _ _ HR.out.ls) ?_;have hHeld:=HALL.out _ _ _ _ HR.out.ls;clear hK K
     try simp only[Act.put,pA,pB,pC]
     refine tK 10 28 rfl ?_;refine tK 11 39 rfl ?_;refine tK 12 40 rfl ?_;refine hO 13 (some 14) rfl fun K hK=> ?_
     (try generalize wr.drew=wd at HR hHeld HKC ⊢)
     go_simp;obtain⟨wm,hwm,HR'⟩:=(HR.out.a HSEP.out.2).ex
     first|(have HKC:=hide (HKC.out.alloc (.cells #[.int .i64 0,.int .i64 0,.int .i64 0,.int .i64 0,.int .i64 0] 24));rw[hwm]at HKC ⊢)|rw[hwm]
     clear hwm;have HR:=hide HR';clear HR';refine hK.out _ _ (by exact HALL.out _ _ _ _ HR.out.ls) (fun hHeld=>tS ?_);clear hK K;refine hO 14 none rfl fun K hK=> ?_;have g14:=HR.out.bx _ rfl;obtain⟨z0,z1,z2,z3,z4⟩:=cell5 g14.1;have fz:=g14.1.frozen;go_simp;have HQ1:=hide (put5 (.int .i64 x1.s) (.int .i64 x1.o) (.int .i64 x1.l) (.int .i64 x1.v) (.int .i64 x1.m) g14.1);have HQ2:=hide (HR.out.ls.keepS (put5_kept (S:=[_]) (.int .i64 x1.s) (.int .i64 x1.o) (.int .i64 x1.l) (.int .i64 x1.v) (.int .i64 x1.m) (Kept.refl [_] _) (.inl (List.mem_singleton.2 rfl))) (fun i hi=>by rw[List.mem_singleton.1 hi];exact⟨g14.2.1,by omega,by omega,by omega,by have:=HSEP.out;omega⟩));refine hK.out _ _ (by exact HALL.out _ _ _ _ HQ2.out) (fun hHeld=>tS ?_);clear hK K;refine tK 15 15 rfl ?_;refine wpAnyH_done (by kernel_rfl) ?_ _;refine NoPanic.normal ?_;go_wp2_with fail;go_meet;exact⟨_,F2,G2,rfl,rfl,HQ2,HQ1,hide g14.2⟩
    ·(try generalize wr.drew=wd at HR hHeld HKC ⊢)
     go_simp;obtain⟨wm,hwm,HR'⟩:=(HR.out.a HSEP.out.2).ex
     first|(have HKC:=hide (HKC.out.alloc (.cells #[.int .i64 0,.int .i64 0,.int .i64 0,.int .i64 0,.int .i64 0] 24));rw[hwm]at HKC ⊢)|rw[hwm]
     clear hwm;have HR:=hide HR';clear HR';refine hK _ _ (by exact HALL.out _ _ _ _ HR.out.ls) ?_;have hHeld:=HALL.out _ _ _ _ HR.out.ls;clear hK K
     try simp only[Act.put,pA,pB,pC]
     refine hO 9 (some 38) rfl fun K hK=> ?_
     (try generalize wr.drew=wd at HR hHeld HKC ⊢)
     go_simp;refine(klog_any F1 G1 d rd E x b s l r q (fst l r q x.s) Ka t.rs.length kc t.rs vs _ HR.out.ls.dd HDr.out.1 HF.out HSr.out HFX.out.1 HFX.out.2 (by have:=HDr.out.2.2;omega) HLO.out rfl HTK.out.1 HTK.out.2 (HKA.out.kept HKC.out (by simp)) (HKR.out.kept HKC.out (by simp))).mono ?_;rw[HX1.out,HE1.out];rintro e wn ⟨rfl,hdd⟩;obtain⟨F2,G2,hg6⟩:=HR.out.c hdd HSEP.out.2 HLT.out HZW.out;have HR:=hide hg6;clear hdd hg6;unfold Ps.val;refine hK.out _ _ (by exact HALL.out _ _ _ _ HR.out.ls) (fun hHeld=>tS ?_);clear hK K;refine tK 10 28 rfl ?_;refine tK 11 39 rfl ?_;refine tK 12 40 rfl ?_;refine hO 14 none rfl fun K hK=> ?_;have g14:=HR.out.bx _ rfl;obtain⟨z0,z1,z2,z3,z4⟩:=cell5 g14.1;have fz:=g14.1.frozen;go_simp;have HQ1:=hide (put5 (.int .i64 x1.s) (.int .i64 x1.o) (.int .i64 x1.l) (.int .i64 x1.v) (.int .i64 x1.m) g14.1);have HQ2:=hide (HR.out.ls.keepS (put5_kept (S:=[_]) (.int .i64 x1.s) (.int .i64 x1.o) (.int .i64 x1.l) (.int .i64 x1.v) (.int .i64 x1.m) (Kept.refl [_] _) (.inl (List.mem_singleton.2 rfl))) (fun i hi=>by rw[List.mem_singleton.1 hi];exact⟨g14.2.1,by omega,by omega,by omega,by have:=HSEP.out;omega⟩));refine hK.out _ _ (by exact HALL.out _ _ _ _ HQ2.out) (fun hHeld=>tS ?_);clear hK K;refine tK 15 15 rfl ?_;refine wpAnyH_done (by kernel_rfl) ?_ _;refine NoPanic.normal ?_;go_wp2_with fail;go_meet;exact⟨_,F2,G2,rfl,rfl,HQ2,HQ1,hide g14.2⟩
   case rest=>
    obtain⟨b14,F2,G2,rfl,rfl,HLS2,HB14,HN14⟩:=hcut;clear HR HKC HALL HKA HKR HLr j0 j1 j2;obtain⟨q0,q1,q2,q3,q4⟩:=cell5 HB14.out;obtain⟨p0,p1,p2,p3,p4⟩:=cell5 HLS2.out.p;have f8:=HLS2.out.p.frozen;obtain⟨r0,r1,r2,r3,r4⟩:=cell5 HLS2.out.q;have fq:=HLS2.out.q.frozen;have HPB:=hide (put5 (.int .i64 x1.s) (.int .i64 x1.o) (.int .i64 x1.l) (.int .i64 x1.v) (.int .i64 x1.m) HLS2.out.p);have HPK:=hide (put5_kept (g:=y+1) (S:=[y+1]) (.int .i64 x1.s) (.int .i64 x1.o) (.int .i64 x1.l) (.int .i64 x1.v) (.int .i64 x1.m) (Kept.refl [y+1] wc) (.inl (by simp)));have HLS3:=hide (HLS2.out.place (x':=x1) HPK.out HPB.out (Nat.le_of_eq HSEP.out.1) HSEP.out.2 HLT.out);have hsub:IntKind.i64.wrap ((n:Int)-1)=(n:Int)-1:=IntWalk.i64_in _ (by omega)
    by_cases hlast:j+1=n
    ·have heq:((j:Int)==(n:Int)-1)=true:=beq_iff_eq.2 (by omega)
     have HRE:Seal (RES=(E1,x1)):=sealed (by
      rw[HRr.out,HDRP.out,List.drop_of_length_le (by rw[HPL.out];omega)];unfold laidL
      rw[←HE1.out,←HX1.out])
     have HLA:=sealed hlast;clear hlast;go_wp2;generalize (((((wc.setCell ⟨y+1,0,none⟩ (.int .i64 x1.s)).setCell ⟨y+1,1,none⟩ (.int .i64 x1.o)).setCell ⟨y+1,2,none⟩ (.int .i64 x1.l)).setCell ⟨y+1,3,none⟩ (.int .i64 x1.v)).setCell ⟨y+1,4,none⟩ (.int .i64 x1.m))=w3 at HLS3 ⊢;have HBA:=hide (put5 (.int .i64 x1.s) (.int .i64 x1.o) (.int .i64 x1.l) (.int .i64 x1.v) (.int .i64 x1.m) HLS3.out.q);have HKA:=hide (put5_kept (g:=y+1+1) (S:=[y+1+1]) (.int .i64 x1.s) (.int .i64 x1.o) (.int .i64 x1.l) (.int .i64 x1.v) (.int .i64 x1.m) (Kept.refl [y+1+1] w3) (.inl (by simp)));generalize (((((w3.setCell ⟨y+1+1,0,none⟩ (.int .i64 x1.s)).setCell ⟨y+1+1,1,none⟩ (.int .i64 x1.o)).setCell ⟨y+1+1,2,none⟩ (.int .i64 x1.l)).setCell ⟨y+1+1,3,none⟩ (.int .i64 x1.v)).setCell ⟨y+1+1,4,none⟩ (.int .i64 x1.m))=wz at HBA HKA ⊢;obtain⟨t0,t1,t2,t3,t4⟩:=cell5 HBA.out;refine bodyPost_ret (v:= .tuple #[.agg #[.int .i64 x1.s,.int .i64 x1.o,.int .i64 x1.l,.int .i64 x1.v,.int .i64 x1.m],.bool true]) (by simp [results,Tryz.results31,go_sem,t0,t1,t2,t3,t4]) rfl ⟨by rw[HRE.out];rfl,by rw[HRE.out];exact HLS3.out.ret HKA.out (Nat.le_of_eq HSEP.out.1) HSEP.out.2 HLT.out HZW.out⟩
    ·have heq:((j:Int)==(n:Int)-1)=false:=beq_eq_false_iff_ne.2 (by omega)
     have hlt2:j+1<n:=by omega
     obtain⟨u,ts,hd1⟩:∃ u ts,pts.drop (j+1)=u::ts:=by
      cases hdd:pts.drop (j+1)with
      | nil=>have:=congrArg List.length hdd;rw[List.length_drop,HPL.out]at this;simp at this;omega
      | cons u ts=>exact⟨u,ts,rfl⟩
     have HDT:=sealed hd1;have hs0:=HOKS.out;have hr1:=Int.emod_nonneg t.nx (show s≠0 by omega);have hr2:=Int.emod_lt_of_pos t.nx (show 0<s by omega);have HRD2:=hide (fun W=>round_any t.nx s W (by omega) (by omega));obtain⟨nx,hnx⟩:∃ nx,t.nx%s=nx:=⟨_,rfl⟩;have HNX:=sealed hnx;rw[hnx]at hr1 hr2 HRD2;have HNB:=hide (show 0≤nx∧nx≤s-1 by omega);have HNBB:=hide HNB.out;have HTN:=hide (turn_ok (nx:=nx) HF.out HOKS.out HSr.out HNB.out HKP.out HTK.out.1 (by omega) HDr.out HDN.out);obtain⟨lo,hlo⟩:∃ lo,t.lost=lo:=⟨_,rfl⟩;have HLO2:=sealed hlo;rw[hlo]at i2;have HI1:=hide i1;have HI2:=hide i2;clear i1 i2;have HALL:=hide (show ∀ W E F2 G2 xx,LS W w F G d rd y (y+1) (y+1+1) Z b s l E xx F2 G2→(fun W=>(W.cell? ⟨y,0,none⟩=some (.int .i64 b)∧W.cell? ⟨y,1,none⟩=some (.int .i64 s)∧W.cell? ⟨y,2,none⟩=some (.int .i64 l))∧W.cell? ⟨(ad.add (j*3)).block,(ad.add (j*3)).off+1,none⟩=some (.int .i64 t.nx)∧W.cell? ⟨(ad.add (j*3)).block,(ad.add (j*3)).off+2,none⟩=some (.bool lo)) W from fun W E F2 G2 xx hh=>⟨⟨hh.c.cell 0,hh.c.cell 1,hh.c.cell 2⟩,hh.fieldAt HZW.out HV0.out (by omega) HI1.out,hh.fieldAt HZW.out HV0.out (by omega) HI2.out⟩);obtain⟨x2,hx2⟩:∃ x2,(turnD E1 (fst l r q x.s) (fst l r q nx) x1 nx (!lo)).2=x2:=⟨_,rfl⟩;obtain⟨E2,hE2⟩:∃ E2,(turnD E1 (fst l r q x.s) (fst l r q nx) x1 nx (!lo)).1=E2:=⟨_,rfl⟩;have HX2:=sealed hx2;have HE2:=sealed hE2;have HT2:=hide (HTN.out.2.2.2.2.2 (!lo));rw[hx2,hE2]at HT2;clear hlast hd1 hs0 hnx hlo hr1 hr2 hx2 hE2;go_wp2;generalize (((((wc.setCell ⟨y+1,0,none⟩ (.int .i64 x1.s)).setCell ⟨y+1,1,none⟩ (.int .i64 x1.o)).setCell ⟨y+1,2,none⟩ (.int .i64 x1.l)).setCell ⟨y+1,3,none⟩ (.int .i64 x1.v)).setCell ⟨y+1,4,none⟩ (.int .i64 x1.m))=w3 at HLS3 ⊢
     have HLS4:=hide (HLS3.out.keep (Kept.refl [] w3).drew);obtain⟨p0,p1,p2,p3,p4⟩:=cell5 HLS4.out.p
     go_cut [12]from 57 to 78 (fun ok wx=>∃ (F3 G3:List Nat),ok= .bool true∧Hid (LS wx w F G d rd y (y+1) (y+1+1) Z b s l E2 x2 F3 G3))
     case first=>
      refine wp_region_noPanic ?_;refine wp_region_held_drew (S:=fun W=>(W.cell? ⟨y,0,none⟩=some (.int .i64 b)∧W.cell? ⟨y,1,none⟩=some (.int .i64 s)∧W.cell? ⟨y,2,none⟩=some (.int .i64 l))∧W.cell? ⟨(ad.add (j*3)).block,(ad.add (j*3)).off+1,none⟩=some (.int .i64 t.nx)∧W.cell? ⟨(ad.add (j*3)).block,(ad.add (j*3)).off+2,none⟩=some (.bool lo)) (by kernel_rfl) (by exact HALL.out _ _ _ _ _ HLS4.out) (fun hHeld=> ?_);refine tK 0 58 rfl ?_;refine tK 1 59 rfl ?_;refine tK 2 60 rfl ?_;refine tK 4 62 rfl ?_;refine tK 5 63 rfl ?_;refine tK 6 64 rfl ?_;refine tK 7 65 rfl ?_;refine tK 8 66 rfl ?_;refine tK 9 67 rfl ?_;refine tK 10 68 rfl ?_;refine tK 12 70 rfl ?_;refine tK 13 71 rfl ?_;refine tK 14 72 rfl ?_;refine tK 15 73 rfl ?_;refine tK 16 74 rfl ?_;refine tK 17 75 rfl ?_;refine next_two (i:=3) (j:=11) (o:=⟨some 61,_,_,_,_,_⟩) (o':=⟨some 69,_,_,_,_,_⟩) (by kernel_rfl) rfl (by rfl) rfl (by rfl) (fun K hK=> ?_) (fun K hK=> ?_)
      ·go_simp;refine hK _ _ (by exact HALL.out _ _ _ _ _ HLS4.out) ?_;have hHeld:=HALL.out _ _ _ _ _ HLS4.out;clear hK K
       try simp only[Act.put,pA,pB,pC]
       refine hO 11 (some 69) rfl fun K hK=> ?_;go_simp;refine(HRD2.out _).mono ?_;rintro e w4 ⟨rfl,rfl⟩;refine hK.out _ _ (by exact HALL.out _ _ _ _ _ HLS4.out) (fun hHeld=>tS ?_);clear hK K;refine hO 18 (some 76) rfl fun K hK=> ?_;go_simp;refine(kturn_any F2 G2 d rd E1 x1 b s l r q nx (!lo) (fst l r q x.s) (fst l r q nx) _ HLS4.out.dd HKP.out.1 HF.out HTN.out.2.2.1 HNB.out HOKS.out.2.1 HTN.out.1.1 HTN.out.2.1.1 HTN.out.1.2 HTN.out.2.1.2 HTN.out.2.2.2.1.1 HTN.out.2.2.2.1.2.1 HTN.out.2.2.2.1.2.2.1 HTN.out.2.2.2.1.2.2.2 HTN.out.2.2.2.2.1).mono ?_;rw[HX2.out,HE2.out];rintro e w5 ⟨rfl,hdd⟩;obtain⟨F3,G3,hls,hk3,hs3⟩:=HLS4.out.put hdd HSEP.out.2 HLT.out HZW.out;have HLS5:=hide hls;clear hdd hls hk3 hs3;unfold Ps.val;refine hK.out _ _ (by exact HALL.out _ _ _ _ _ HLS5.out) (fun hHeld=>tS ?_);clear hK K;refine tK 19 57 rfl ?_;refine tK 20 77 rfl ?_;refine tK 21 78 rfl ?_;refine hO 22 none rfl fun K hK=> ?_;obtain⟨z0,z1,z2,z3,z4⟩:=cell5 HLS5.out.p;have fz:=HLS5.out.p.frozen;go_simp;have HZB2:=hide ((put5 (.int .i64 x2.s) (.int .i64 x2.o) (.int .i64 x2.l) (.int .i64 x2.v) (.int .i64 x2.m) HLS5.out.p));have HZK2:=hide ((put5_kept (g:=y+1) (S:=[y+1]) (.int .i64 x2.s) (.int .i64 x2.o) (.int .i64 x2.l) (.int .i64 x2.v) (.int .i64 x2.m) (Kept.refl [y+1] w5) (.inl (by simp))));have HLS6:=hide (HLS5.out.place (x':=x2) HZK2.out HZB2.out (Nat.le_of_eq HSEP.out.1) HSEP.out.2 HLT.out);refine hK.out _ _ (by exact HALL.out _ _ _ _ _ HLS6.out) (fun hHeld=>tS ?_);clear hK K;refine tK 23 12 rfl ?_;refine wpAnyH_done (by kernel_rfl) ?_ _
       refine NoPanic.normal ?_;go_wp2_with fail;go_meet;exact⟨F3,G3,rfl,HLS6⟩
      ·go_simp;refine(HRD2.out _).mono ?_;rintro e w4 ⟨rfl,rfl⟩;refine hK _ _ (by exact HALL.out _ _ _ _ _ HLS4.out) ?_;have hHeld:=HALL.out _ _ _ _ _ HLS4.out;clear hK K
       try simp only[Act.put,pA,pB,pC]
       refine hO 3 (some 61) rfl fun K hK=> ?_;go_simp;refine hK.out _ _ (by exact HALL.out _ _ _ _ _ HLS4.out) (fun hHeld=>tS ?_);clear hK K;refine hO 18 (some 76) rfl fun K hK=> ?_;go_simp;refine(kturn_any F2 G2 d rd E1 x1 b s l r q nx (!lo) (fst l r q x.s) (fst l r q nx) _ HLS4.out.dd HKP.out.1 HF.out HTN.out.2.2.1 HNB.out HOKS.out.2.1 HTN.out.1.1 HTN.out.2.1.1 HTN.out.1.2 HTN.out.2.1.2 HTN.out.2.2.2.1.1 HTN.out.2.2.2.1.2.1 HTN.out.2.2.2.1.2.2.1 HTN.out.2.2.2.1.2.2.2 HTN.out.2.2.2.2.1).mono ?_;rw[HX2.out,HE2.out];rintro e w5 ⟨rfl,hdd⟩;obtain⟨F3,G3,hls,hk3,hs3⟩:=HLS4.out.put hdd HSEP.out.2 HLT.out HZW.out;have HLS5:=hide hls;clear hdd hls hk3 hs3;unfold Ps.val;refine hK.out _ _ (by exact HALL.out _ _ _ _ _ HLS5.out) (fun hHeld=>tS ?_);clear hK K;refine tK 19 57 rfl ?_;refine tK 20 77 rfl ?_;refine tK 21 78 rfl ?_;refine hO 22 none rfl fun K hK=> ?_;obtain⟨z0,z1,z2,z3,z4⟩:=cell5 HLS5.out.p;have fz:=HLS5.out.p.frozen;go_simp;have HZB2:=hide ((put5 (.int .i64 x2.s) (.int .i64 x2.o) (.int .i64 x2.l) (.int .i64 x2.v) (.int .i64 x2.m) HLS5.out.p));have HZK2:=hide ((put5_kept (g:=y+1) (S:=[y+1]) (.int .i64 x2.s) (.int .i64 x2.o) (.int .i64 x2.l) (.int .i64 x2.v) (.int .i64 x2.m) (Kept.refl [y+1] w5) (.inl (by simp))));have HLS6:=hide (HLS5.out.place (x':=x2) HZK2.out HZB2.out (Nat.le_of_eq HSEP.out.1) HSEP.out.2 HLT.out);refine hK.out _ _ (by exact HALL.out _ _ _ _ _ HLS6.out) (fun hHeld=>tS ?_);clear hK K;refine tK 23 12 rfl ?_;refine wpAnyH_done (by kernel_rfl) ?_ _;refine NoPanic.normal ?_
       go_wp2_with fail;go_meet;exact⟨F3,G3,rfl,HLS6⟩
     case rest=>
      obtain⟨F3,G3,rfl,HLS6⟩:=hcut;clear HALL HLS3 HLS4 HTN HNB HLS2 HI1 HI2 p0 p1 p2 p3 p4;obtain⟨p0,p1,p2,p3,p4⟩:=cell5 HLS6.out.p
      cases lo with
      | true=>
       have h2o:x2.o=0:=HT2.out.2.2.2.2.2 rfl;have heq2:(x2.o==0)=true:=beq_iff_eq.2 h2o
       have HRE:Seal (RES=(E2,x2)):=sealed (by
        rw[HRr.out,HDRP.out,HDT.out,laidL,HE1.out,HX1.out,HNX.out,HLO2.out,if_pos rfl,←HE2.out,←HX2.out]
        rfl)
       clear h2o;obtain⟨r0,r1,r2,r3,r4⟩:=cell5 HLS6.out.q;have fq:=HLS6.out.q.frozen;go_wp2;have HBA:=hide (put5 (.int .i64 x2.s) (.int .i64 x2.o) (.int .i64 x2.l) (.int .i64 x2.v) (.int .i64 x2.m) HLS6.out.q);have HKA:=hide (put5_kept (g:=y+1+1) (S:=[y+1+1]) (.int .i64 x2.s) (.int .i64 x2.o) (.int .i64 x2.l) (.int .i64 x2.v) (.int .i64 x2.m) (Kept.refl [y+1+1] wc) (.inl (by simp)));generalize (((((wc.setCell ⟨y+1+1,0,none⟩ (.int .i64 x2.s)).setCell ⟨y+1+1,1,none⟩ (.int .i64 x2.o)).setCell ⟨y+1+1,2,none⟩ (.int .i64 x2.l)).setCell ⟨y+1+1,3,none⟩ (.int .i64 x2.v)).setCell ⟨y+1+1,4,none⟩ (.int .i64 x2.m))=wz at HBA HKA ⊢;obtain⟨t0,t1,t2,t3,t4⟩:=cell5 HBA.out;refine bodyPost_ret (v:= .tuple #[.agg #[.int .i64 x2.s,.int .i64 x2.o,.int .i64 x2.l,.int .i64 x2.v,.int .i64 x2.m],.bool true]) (by simp [results,Tryz.results31,go_sem,t0,t1,t2,t3,t4]) rfl ⟨by rw[HRE.out];rfl,by rw[HRE.out];exact HLS6.out.ret HKA.out (Nat.le_of_eq HSEP.out.1) HSEP.out.2 HLT.out HZW.out⟩
      | false=>
       have h2o:x2.o=1:=(HT2.out.2.2.2.2.1 rfl).2;have heq2:(x2.o==0)=false:=beq_eq_false_iff_ne.2 (by omega)
       have HRE:Seal (RES=laidL s l r q E2 x2 (pts.drop (j+1))):=sealed (by
        rw[HRr.out,HDRP.out,HDT.out,laidL,HE1.out,HX1.out,HNX.out,HLO2.out,if_neg (by simp),←HE2.out,←HX2.out]
        rfl)
       have HB2:Hid (LogB x2 (1050000+401*((j+1:Nat):Int))∧x2.o=1):=hide (HT2.out.2.2.2.2.1 rfl);have HS2:Hid (0≤x2.s∧x2.s≤s-1):=hide (by rw[HT2.out.2.2.2.1];exact HNBB.out);have HD2:Hid (Reads E2∧E2.n=D.n∧E2.acts≤2000+900*(j+1)):=hide ⟨HT2.out.1,HT2.out.2.1,HT2.out.2.2.1⟩;clear h2o;go_wp2;refine⟨⟨j+1,E2,x2,F3,G3,by omega,rfl,by go_num,HLS6,HRE,HB2,HS2,HD2⟩,?_⟩;show n-(intOf _).toNat<n-(intOf _).toNat;simp only[intOf]
       omega
  ·obtain rfl:j=n:=by omega
   have HRE:Seal (RES=(E,x)):=sealed (by rw[HRr.out,List.drop_eq_nil_of_le (by rw[HPL.out];exact Nat.le_refl _)];rfl);obtain⟨p0,p1,p2,p3,p4⟩:=cell5 HLr.out.p;obtain⟨r0,r1,r2,r3,r4⟩:=cell5 HLr.out.q;have fq:=HLr.out.q.frozen;go_wp2;have HBA:=hide (put5 (.int .i64 x.s) (.int .i64 x.o) (.int .i64 x.l) (.int .i64 x.v) (.int .i64 x.m) HLr.out.q);have HKA:=hide (put5_kept (g:=y+1+1) (S:=[y+1+1]) (.int .i64 x.s) (.int .i64 x.o) (.int .i64 x.l) (.int .i64 x.v) (.int .i64 x.m) (Kept.refl [y+1+1] wr) (.inl (by simp)));generalize (((((wr.setCell ⟨y+1+1,0,none⟩ (.int .i64 x.s)).setCell ⟨y+1+1,1,none⟩ (.int .i64 x.o)).setCell ⟨y+1+1,2,none⟩ (.int .i64 x.l)).setCell ⟨y+1+1,3,none⟩ (.int .i64 x.v)).setCell ⟨y+1+1,4,none⟩ (.int .i64 x.m))=wz at HBA HKA ⊢;obtain⟨t0,t1,t2,t3,t4⟩:=cell5 HBA.out;refine bodyPost_ret (v:= .tuple #[.agg #[.int .i64 x.s,.int .i64 x.o,.int .i64 x.l,.int .i64 x.v,.int .i64 x.m],.bool true]) (by simp [results,Tryz.results31,go_sem,t0,t1,t2,t3,t4]) rfl ⟨by rw[HRE.out];rfl,by rw[HRE.out];exact HLr.out.ret HKA.out (Nat.le_of_eq HSEP.out.1) HSEP.out.2 HLT.out HZW.out⟩
end Go.Proofs.YtjkmahmoclobmaaGreat.sc
