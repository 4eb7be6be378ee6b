import Derived.Test.YtjkmahmoclobmaaGreatYChainLaid
set_option linter.unusedSimpArgs false
set_option linter.unusedVariables false
namespace Go.Proofs.YtjkmahmoclobmaaGreat.sc
open Go.RowKit mem base disk geom owns
open record (Rc RcIn RcAt put5 put5_kept cell5)
def kz:Kr:=⟨[],0,0,0,0⟩
def zrecs:Nat→List Value
 | 0=>[]
 | m+1=> .slice none 0 0:: .int .i64 0:: .int .i64 0:: .int .i64 0:: .int .i64 0::zrecs m
theorem krin_recs (w:World)(S:List Nat):∀ m:Nat,KrIn w S (List.replicate m kz) (zrecs m)
 | 0=>rfl
 | m+1=>⟨none,0,zrecs m,rfl,fun i v h=>by simp [kz]at h,krin_recs w S m⟩
end Go.Proofs.YtjkmahmoclobmaaGreat.sc

namespace Go.Proofs.YtjkmahmoclobmaaGreat.sc
open Go.RowKit mem base disk owns geom
open record (Rc RcIn RcAt put5 put5_kept cell5)
set_option maxRecDepth 100000 in
theorem cdesk_any (b s l:Int)(w:World)(h:geom.Ok b s l):
  Calls Tryz.prog 30 #[.agg #[.int .i64 b,.int .i64 s,.int .i64 l]] w fun e w'=>∃ F p G rd g n r q,e= .returned (.tuple #[.pointer (some ⟨p,0,none⟩),.pointer (some ⟨rd,0,none⟩),.pointer (some ⟨g,0,none⟩),.bool true])∧Desk w w' F p G rd g n b s l r q:=by
 have hk0:=(Kept.refl [] w).alloc (.cells #[.int .i64 b,.int .i64 s,.int .i64 l] 29);have hb0:=Blk.new w 29 #[.int .i64 b,.int .i64 s,.int .i64 l];obtain⟨b4,hb4⟩:∃ b4,w.heap.size=b4:=⟨_,rfl⟩;rw[hb4]at hb0;obtain⟨w1,hw1⟩:∃ w1,w.alloc (.cells #[.int .i64 b,.int .i64 s,.int .i64 l] 29)=w1:=⟨_,rfl⟩;rw[hw1]at hk0 hb0;have HB:=hide hb0;have HK:=hide hk0;have H:=hide h;obtain⟨c0,c1,c2⟩:w1.cell? ⟨b4,0,none⟩=some (.int .i64 b)∧w1.cell? ⟨b4,1,none⟩=some (.int .i64 s)∧w1.cell? ⟨b4,2,none⟩=some (.int .i64 l):=⟨hb0.cell 0,hb0.cell 1,hb0.cell 2⟩;clear hk0 hb0 h;go_enter Tryz.func30,Tryz.ntmps30;go_wp2_with fail;refine(geom.new_yes b s l _ H.out).mono ?_;rintro e w2 ⟨g,r,q,rfl,hg,hge,hk2⟩;have HG:=hide hg;have HGE:=hide hge;have HB2:=hide (hk2.blk HB.out (by simp));have HK2:=hide (HK.out.trans hk2 (by simp));have HK12:=hide hk2.size;obtain⟨d0,d1,d2⟩:w2.cell? ⟨b4,0,none⟩=some (.int .i64 b)∧w2.cell? ⟨b4,1,none⟩=some (.int .i64 s)∧w2.cell? ⟨b4,2,none⟩=some (.int .i64 l):=⟨HB2.out.cell 0,HB2.out.cell 1,HB2.out.cell 2⟩;clear c0 c1 c2 hg hge hk2;go_wp2_with fail;refine(geom.rsectors b s l r q _ HG.out.rf).mono ?_;rintro e w3 ⟨rfl,hk3⟩;have hbd:=HG.out.bounds;have hok:=HG.out.ok;unfold geom.Ok at hok;have hm:=geom.mul_le (i:=s) (s:=s) (l:=l) (by omega) (by omega) (by omega) (by omega) (by omega);obtain⟨n,hn⟩:∃ n:Nat,(n:Int)=2+2*r+4*q+s*l:=⟨(2+2*r+4*q+s*l).toNat,by omega⟩
 have hn1:1≤n∧n≤4096:=by omega
 have HN:=hide hn;have HG3:=hide (HG.out.kept hk3);have HK3:=hide (HK2.out.trans hk3 (by simp));have hk3s:=hk3.size;rw[←hn];clear hbd hok hm hn hk3;go_wp2_with fail;refine(two_at (n:Int) n rfl _ hn1.1 hn1.2).mono ?_;rintro e w4 ⟨F,p,G,rd,rfl,hpr⟩;have HP:=hide hpr;clear hpr;go_wp2;have hkm:=HP.out.a.2.2;refine bodyPost_ret (v:= .tuple #[.pointer (some ⟨p,0,none⟩),.pointer (some ⟨rd,0,none⟩),.pointer (some ⟨g,0,none⟩),.bool true]) (by simp [results,Tryz.results30,go_sem]) rfl ⟨F,p,G,rd,g,n,r,q,rfl,⟨⟨HP.out.a.1,HP.out.b,HP.out.sep⟩,HN.out,HG3.out.kept hkm,?_,?_,HK3.out.trans hkm (by simp)⟩⟩
 ·exact Nat.le_trans HK.out.size HGE.out
 ·intro x hx
  have:=HG3.out.lt
  rcases List.mem_append.1 hx with hx|hx
  ·have:=HP.out.a.2.1 x hx;omega
  ·have:=HP.out.new x hx;omega
end Go.Proofs.YtjkmahmoclobmaaGreat.sc

namespace Go.Proofs.YtjkmahmoclobmaaGreat.sc
open Go.RowKit mem base disk geom
open record (Rc)
section
variable {D D':Dk}{a z:Int}
theorem gat_same:∀ (k:Nat),(∀ i:Nat,i<k→D'.read (a+i)=D.read (a+i))→gat D' a k=gat D a k
 | 0,_=>rfl
 | k+1,h=>by
  have ih:=gat_same k (fun i hi=>h i (by omega));unfold gat;rw[ih,h k (by omega)]
theorem follow_same (h:∀ x,a≤x→x<a+z→D'.read x=D.read x)(p:Ps):follow D' a z p=follow D a z p:=by
 by_cases h0:p.o<1∨z≤p.o
 ·unfold follow;rw[if_pos h0,if_pos h0]
 ·have h1:=h (a+p.o) (by omega) (by omega)
  by_cases h2:record.sizeOf (D.read (a+p.o)).2=0∨z<p.o+record.sizeOf (D.read (a+p.o)).2
  ·unfold follow;rw[if_neg h0,if_neg h0,h1,if_pos h2,if_pos h2]
  ·have h3:gat D' (a+p.o) (record.sizeOf (D.read (a+p.o)).2)=gat D (a+p.o) (record.sizeOf (D.read (a+p.o)).2):=gat_same _ (fun i hi=>h _ (by omega) (by omega));unfold follow;rw[if_neg h0,if_neg h0,h1,h3]
theorem recs_same (h:∀ x,a≤x→x<a+z→D'.read x=D.read x):∀ (f:Nat) (p:Ps),recs D' a z f p=recs D a z f p
 | 0,_=>rfl
 | f+1,p=>by
  unfold recs;rw[follow_same h p]
  split
  ·rfl
  ·rename_i R sm _ _
   rw[recs_same h f]
theorem scan_same (h:∀ x,a≤x→x<a+z→D'.read x=D.read x)(p:Ps)(hb:Bool):scanOf D' a z p hb=scanOf D a z p hb:=by
 have hs:start D' a z p hb=start D a z p hb:=by
  by_cases h0:p.o≠0
  ·unfold start;rw[if_pos h0,if_pos h0]
  ·by_cases h1:z≤0
   ·unfold start;rw[if_neg h0,if_neg h0,if_pos h1,if_pos h1]
   ·unfold start;rw[h a (Int.le_refl _) (by omega)]
 unfold scanOf;rw[hs]
 split
 ·rfl
 ·rw[recs_same h]
theorem Stand.same (h:∀ x,a≤x→x<a+z→D'.read x=D.read x){s:Int}{p:Ps}{L:List (Ps×Rc)}{at_:Ps}{on:Bool}(hs:Stand D a z s p L at_ on):Stand D' a z s p L at_ on:=by
 cases hs with
 | nil=>exact .nil
 | snoc pre pk R sm hf=>exact .snoc pre pk R sm (by rw[follow_same h];exact hf)
end
def Alike (D D':Dk)(s l r q i:Int):Prop:=∀ x,(ofSeg none s l r q i).2.1≤x→x<(ofSeg none s l r q i).2.1+(ofSeg none s l r q i).2.2→D'.read x=D.read x
inductive Way (D:Dk) (s l r q:Int) (p0:Ps):List (Ps×Rc)→Ps→List Int→Prop where
 | nil:Way D s l r q p0 [] p0 []
 | snoc (L:List (Ps×Rc)) (at_:Ps) (V:List Int) (L2:List (Ps×Rc)) (E at2:Ps) (h:Way D s l r q p0 L at_ V) (h1:segOf D s l r q at_=(L2,E,0)) (h2:Stand D (ofSeg none s l r q at_.s).2.1 (ofSeg none s l r q at_.s).2.2 s at_ L2 at2 true):Way D s l r q p0 (L++L2) at2 (at_.s::V)
theorem Way.same {D D':Dk}{s l r q:Int}{p0 at_:Ps}{L:List (Ps×Rc)}{V:List Int}(h:Way D s l r q p0 L at_ V):(∀ i∈V,Alike D D' s l r q i)→Way D' s l r q p0 L at_ V:=by
 induction h with
 | nil=>exact fun _=> .nil
 | snoc L at_ V L2 E at2 h h1 h2 ih=>
  intro hv;have ha:=hv at_.s (by simp);refine .snoc L at_ V L2 E at2 (ih (fun i hi=>hv i (by simp [hi]))) ?_ (h2.same ha);unfold segOf;rw[scan_same ha];exact h1
theorem Way.logs {D:Dk}{s l r q:Int}{p0 at_:Ps}{L:List (Ps×Rc)}{V:List Int}(h:Way D s l r q p0 L at_ V):∀ {L2:List (Ps×Rc)} {E:Ps} {err:Int},Logs D s l r q at_ L2 E err→Logs D s l r q p0 (L++L2) E err:=by
 induction h with
 | nil=>exact fun h=>h
 | snoc L at_ V L2 E at2 h h1 h2 ih=>
  intro L3 E3 err h3;rw[List.append_assoc];exact ih (.more at_ L2 E 0 at2 L3 E3 err h1 h2 h3)
theorem kz_len (p:Ps):lenOf (kmade p kz)=1:=by
 have h1:=kmade_len p kz;have h2:kz.ks.length=0:=rfl;unfold lenOf
 omega
theorem seg_run {a:Nat}{z:Int}{p:Ps}:∀ (m:Nat) {D:Dk} {lo:List (Ps×Rc)} {qe:Ps},Seg D a z p lo qe→qe.o+m≤z-1→(1≤qe.m∧qe.m≤2000000)→(1≤qe.l∧qe.l+m≤2000000)→(0≤qe.v∧qe.v≤4294967295)→
  ∃ l',Seg (logD D a z qe (List.replicate m kz)).1 a z p (lo++l') (logD D a z qe (List.replicate m kz)).2∧l'.length=m∧(∀ y∈l',lenOf y.2=1)∧(logD D a z qe (List.replicate m kz)).2.o=qe.o+m∧(logD D a z qe (List.replicate m kz)).2.s=qe.s∧(logD D a z qe (List.replicate m kz)).2.l=qe.l+m∧(logD D a z qe (List.replicate m kz)).2.m=qe.m∧
   (0≤(logD D a z qe (List.replicate m kz)).2.v∧(logD D a z qe (List.replicate m kz)).2.v≤4294967295)∧(logD D a z qe (List.replicate m kz)).1.n=D.n∧(∀ i,i<D.n→((i:Int)<a∨a+z≤i)→disk.sec (logD D a z qe (List.replicate m kz)).1.now i=disk.sec D.now i)
 | 0,D,lo,qe,h,ho,hm,hl,hv=>⟨[],by simpa [logD]using h,rfl,by simp,by simp [logD],rfl,by simp [logD],rfl,hv,rfl,fun _ _ _=>rfl⟩
 | m+1,D,lo,qe,h,ho,hm,hl,hv=>by
  have hk:=kz_len qe;have hok:=kmade_ok qe kz (by omega) (by omega) (by simp [kz]);obtain⟨k1,k2,k3⟩:=kplain qe [] 0 hm.1 hl.1 hv;have hle:=h.le;have hs:=sum_le (kmade qe kz);have hroom:=h.room;obtain⟨s1,s2,s3⟩:=h.put (kmade qe kz) hok (fits_of (p:=qe) k2 k3 (by show qe.m≤(kmade qe kz).m;have:(kmade qe kz).m=qe.m:=k1;omega)) (kmade_next qe kz) (by omega);obtain⟨e1,e2,e3,e4,e5⟩:=put_reads h.reads (a+qe.o.toNat) (kmade qe kz).bytes (lenOf (kmade qe kz)) (by omega) (Rc.bytes_len hok);rw[Int.natCast_add]at e1 e2 e3 e4 e5
  have hst:logD D a z qe (List.replicate (m+1) kz)=logD (putD D ((a:Int)+qe.o.toNat) (kmade qe kz).bytes) a z (behind qe (kmade qe kz) (kmade qe kz).sum) (List.replicate m kz):=by
   rw[List.replicate_succ]
   conv=>lhs;unfold logD
   rw[if_neg (by omega)];unfold behind;rw[show(kmade qe kz).l=qe.l from k2]
  rw[hst]
  have b1:(behind qe (kmade qe kz) (kmade qe kz).sum).o=qe.o+1:=by rw[behind_o,hk];rfl
  have b2:(behind qe (kmade qe kz) (kmade qe kz).sum).l=qe.l+1:=rfl;have b3:(behind qe (kmade qe kz) (kmade qe kz).sum).m=qe.m:=k1;have b4:(behind qe (kmade qe kz) (kmade qe kz).sum).v=(kmade qe kz).sum:=rfl;have b5:(behind qe (kmade qe kz) (kmade qe kz).sum).s=qe.s:=rfl;obtain⟨l',i1,i2,i3,i4,i5,i6,i7,i8,i9,i10⟩:=seg_run m s1 (by rw[b1];omega) (by rw[b3];exact hm) (by rw[b2];omega) (by rw[b4];omega);refine⟨(qe,kmade qe kz)::l',by simpa using i1,by simp [i2],?_,by rw[i4,b1];omega,i5.trans b5,by rw[i6,b2];omega,by rw[i7,b3],i8,by rw[i9,s2],fun i hi ho2=> ?_⟩
  ·intro y hy
   rcases List.mem_cons.1 hy with rfl|hy
   ·exact hk
   ·exact i3 y hy
  ·rw[i10 i (by rw[s2];exact hi) ho2,e5 i hi (by omega)]
end Go.Proofs.YtjkmahmoclobmaaGreat.sc

namespace Go.Proofs.YtjkmahmoclobmaaGreat.sc
open Go.RowKit mem base disk geom
open record (Rc)
theorem Chain.recsN {D:Dk}{a:Nat}{z:Int}(hD:Reads D)(hz:(a:Int)+z≤D.n){N:Rc}{sm:Int}(hn:hasNext N=true):∀ {l:List (Ps×Rc)} {p q:Ps},Chain D a z p l q→follow D a z q=(some (N,sm),0)→1≤p.o→∀ f:Nat,z≤p.o+f→sc.recs D a z f p=(l++[(q,N)],behind q N sm,0)
 | [],p,q,h,hf,hp,f,hf2=>by
  have h':q=p:=h;subst h'
  have:=follow_in hf
  cases f with
  | zero=>omega
  | succ f=>
   unfold sc.recs;rw[hf];dsimp only;rw[if_pos hn]
   rfl
 | (p₁,R)::l,p,q,⟨e1,i1,i2,i3,i4,i5,i6⟩,hf,hp,f,hf2=>by
  obtain rfl:p₁=p:=e1;have hfo:=follow_stands hD a z p₁ R (a+p₁.o.toNat) (by omega) i1 (by omega) i2 i5;rw[if_pos i3]at hfo;obtain⟨f',rfl,hr,h3,h4⟩:=recs_more hfo f (.inr hf2) i4
  have:=i6.recsN hD hz hn hf h4 f' (by rw[behind_o]at h3 h4 ⊢;omega)
  rw[hr,this]
  rfl
theorem nextR_has (q:Ps)(v:Int):hasNext (nextR q v)=true:=rfl
theorem stepOn_next (s:Int)(q:Ps)(v:Int)(h:v<s):stepOn s (behind q (nextR q v) ((nextR q v).sum:Int)) (nextR q v)=(turnTo q v,true):=by
 unfold stepOn;rw[nextR_next];dsimp only;rw[if_neg (by omega)]
 rfl
theorem seg_turn {D:Dk}{a a2:Nat}{z s nx:Int}{p qe:Ps}{lo:List (Ps×Rc)}(h:Seg D a z p lo qe)(ho:qe.o≤z-1)(hm:1≤qe.m∧qe.m≤2000000)(hl:1≤qe.l∧qe.l≤2000000)(hv:0≤qe.v∧qe.v≤4294967295)(hnx:0≤nx∧nx≤31)(hns:nx<s)
  (h2:(a2:Int)+z≤D.n) (hdj:(a:Int)+z≤a2∨(a2:Int)+z≤a) (hbl:∀ i,a2≤i→(i:Int)<a2+z→disk.sec D.now i=List.replicate 64 0):
  (turnD D a a2 qe nx true).2=⟨nx,1,qe.l+1,((nextR qe nx).sum:Int),qe.m⟩∧(turnD D a a2 qe nx true).1.n=D.n∧
  (∀ i,i<D.n→((i:Int)<a∨a+z≤i)→((i:Int)<a2∨a2+z≤i)→disk.sec (turnD D a a2 qe nx true).1.now i=disk.sec D.now i)∧
  Seg (turnD D a a2 qe nx true).1 a2 z ⟨nx,1,qe.l+1,((nextR qe nx).sum:Int),qe.m⟩ [] ⟨nx,1,qe.l+1,((nextR qe nx).sum:Int),qe.m⟩∧
  hd.fits (headOf ⟨nx,1,qe.l+1,((nextR qe nx).sum:Int),qe.m⟩).bytes (turnTo qe nx).s (turnTo qe nx).l (turnTo qe nx).v (turnTo qe nx).m=true∧
  (∀ at_:Ps,at_.o=0→at_.s=p.s→hd.fits (headOf p).bytes at_.s at_.l at_.v at_.m=true→
   scanOf (turnD D a a2 qe nx true).1 a z at_ false=(lo++[(qe,nextR qe nx)],behind qe (nextR qe nx) ((nextR qe nx).sum:Int),0)∧Stand (turnD D a a2 qe nx true).1 a z s at_ (lo++[(qe,nextR qe nx)]) (turnTo qe nx) true):=by
 have hle:=h.le;have hroom:=h.room;have hsum:=sum_le (nextR qe nx);have hok:(nextR qe nx).ok:=nextR_ok qe nx (by omega) (by omega) hv hnx;have hlen:=nextR_len qe nx;obtain⟨e1,e2,e3,e4,e5⟩:=put_reads h.reads (a+qe.o.toNat) (nextR qe nx).bytes 1 (by omega) (Rc.bytes_len hok);obtain⟨D1,hD1⟩:∃ D1,putD D ((a+qe.o.toNat:Nat):Int) (nextR qe nx).bytes=D1:=⟨_,rfl⟩;rw[hD1]at e1 e2 e3 e4 e5;have hmay:(headOf ⟨nx,1,qe.l+1,((nextR qe nx).sum:Int),qe.m⟩).may=true:=head_may _ hnx (by dsimp only;omega) (by dsimp only;omega) (by dsimp only;omega);obtain⟨g1,g2,g3,g4,g5⟩:=put_reads e1 a2 (headOf (turnTo qe nx)).bytes 1 (by rw[e2];omega) (hd.Hd.bytes_len _)
 have ht:turnD D a a2 qe nx true=(putD D1 (a2:Int) (headOf (turnTo qe nx)).bytes,⟨nx,1,qe.l+1,((nextR qe nx).sum:Int),qe.m⟩):=by
  unfold turnD;rw[if_pos rfl,hD1]
 rw[ht];dsimp only;obtain⟨D2,hD2⟩:∃ D2,putD D1 (a2:Int) (headOf (turnTo qe nx)).bytes=D2:=⟨_,rfl⟩;rw[hD2]at g1 g2 g3 g4 g5 ⊢
 have hsecs:∀ i,i<D.n→((i:Int)<a∨a+z≤i)→((i:Int)<a2∨a2+z≤i)→disk.sec D2.now i=disk.sec D.now i:=fun i hi h3 h4=>by
  rw[g5 i (by rw[e2];exact hi) (by omega),e5 i hi (by omega)]
 refine⟨rfl,g2.trans e2,hsecs,⟨g1,by rw[g2,e2];exact h2,rfl,rfl,by dsimp only;omega,?_,hmay,fun i h3 h4=> ?_⟩,?_,fun at_ h3 h4 h5=> ?_⟩
 ·have:=g4 0 (by omega)
  rw[Nat.add_zero]at this;rw[this];unfold disk.sec;rw[Nat.mul_zero,List.drop_zero,List.take_of_length_le (by rw[hd.Hd.bytes_len];exact Nat.le_refl _)]
  rfl
 ·have h3':a2+1≤i:=h3;rw[g5 i (by rw[e2];omega) (by omega),e5 i (by omega) (by omega)];exact hbl i (by omega) h4
 ·rw[hd.fits_bytes _ hmay]
  simp [headOf,turnTo]
 ·have hch:Chain D2 a z p lo qe:=h.chain.same (by have:=h.first;omega) (fun i h6 h7=>by rw[g5 i (by rw[e2];omega) (by omega),e5 i (by omega) (by omega)])
  have hst:StandsAt D2 (a+qe.o.toNat) (nextR qe nx).bytes (lenOf (nextR qe nx)):=fun i hi=>by
   rw[hlen]at hi;rw[g5 _ (by rw[e2];omega) (by omega)];exact e4 i hi
  have hfo:=follow_stands g1 a z qe (nextR qe nx) (a+qe.o.toNat) (by omega) (by rw[hlen];omega) (by rw[g2,e2,hlen];omega) hok hst;rw[if_pos (fits_of (p:=qe) rfl rfl (Int.le_refl _))]at hfo;refine⟨?_,?_⟩
  ·unfold scanOf;rw[start_head g1 (by rw[g2,e2];exact hroom) (by omega) (by rw[g5 a (by rw[e2];omega) (by omega),e5 a (by omega) (by omega)];exact h.head) h.may h.first at_ false h3 h4 (.inr h5)];dsimp only;exact hch.recsN g1 (by rw[g2,e2];exact hroom) (nextR_has qe nx) hfo (by have:=h.first;omega) _ (by have:=h.first;omega)
  ·have:=Stand.snoc (D:=D2) (a:=(a:Int)) (z:=z) (s:=s) (p:=at_) lo qe (nextR qe nx) _ hfo
   rw[stepOn_next s qe nx hns]at this;exact this
end Go.Proofs.YtjkmahmoclobmaaGreat.sc

namespace Go.Proofs.YtjkmahmoclobmaaGreat.sc
open Go.RowKit mem base disk geom
open record (Rc)
theorem fst24 {r q i:Int}(hr:0≤r∧0≤q)(hi:0≤i):(fst 24 r q i:Int)=2+2*r+4*q+i*24:=by
 unfold fst
 omega
theorem of24 {r q i:Int}(hr:0≤r∧0≤q)(hi:0≤i∧i≤7):ofSeg none 8 24 r q i=(none,(fst 24 r q i:Int),24):=by
 rw[ofSeg_in (by omega),fst24 hr hi.1]
theorem alike_of {D D':Dk}{r q i:Int}(h1:Reads D)(h2:Reads D')(hn:D'.n=D.n)(hr:0≤r∧0≤q)(hi:0≤i∧i≤7)(ht:2+2*r+4*q+8*24≤(D.n:Int))(hs:∀ x:Nat,fst 24 r q i≤x→(x:Int)<fst 24 r q i+24→disk.sec D'.now x=disk.sec D.now x):Alike D D' 8 24 r q i:=by
 intro x hx1 hx2;rw[of24 hr hi]at hx1 hx2;dsimp only at hx1 hx2;have h3:=fst24 (i:=i) hr hi.1;obtain⟨y,rfl⟩:∃ y:Nat,x=(y:Int):=⟨x.toNat,by omega⟩;rw[h1.read y (by omega),h2.read y (by omega),hs y (by omega) hx2]
theorem Chain.plain {D:Dk}{a:Nat}{z:Int}:∀ {l:List (Ps×Rc)} {p q:Ps},Chain D a z p l q→∀ y∈l,hasNext y.2=false
 | [],_,_,_=>by simp
 | (_,R)::l,p,q,⟨_,_,_,_,i4,_,i6⟩=>by
  intro y hy
  rcases List.mem_cons.1 hy with rfl|hy
  ·exact i4
  ·exact i6.plain y hy
theorem Seg.logs {D:Dk}{r q:Int}{p at_ qe:Ps}{lo:List (Ps×Rc)}(hr:0≤r∧0≤q)(hp:0≤p.s∧p.s≤7)(h:Seg D (fst 24 r q p.s) 24 p lo qe)(h0:at_.o=0)(hs:at_.s=p.s)(hf:hd.fits (headOf p).bytes at_.s at_.l at_.v at_.m=true):Logs D 8 24 r q at_ lo qe 0:=by
 have ho:=of24 hr (i:=at_.s) (by omega);have ht:=h.toldHead at_ false h0 hs (.inr hf);rw[←hs]at ht
 have hsg:segOf D 8 24 r q at_=(lo,qe,0):=by
  unfold segOf;rw[ho];exact ht
 rcases List.eq_nil_or_concat lo with rfl|⟨pre,⟨pk,R⟩,rfl⟩
 ·exact .last at_ [] qe 0 at_ hsg .nil
 ·rw[List.concat_eq_append]at*;obtain⟨sm,h1,h2,h3⟩:=scan_end ht rfl;have hn:=h.chain.plain (pk,R) (by simp);have hst:=Stand.snoc (D:=D) (a:=(fst 24 r q at_.s:Int)) (z:=24) (s:=8) (p:=at_) pre pk R sm h1;rw[stepOn_none hn]at hst;refine .last at_ _ qe 0 (behind pk R sm) hsg ?_;rw[ho];exact hst
structure Rung (D:Dk)(r q:Int)(p0:Ps)(L:List (Ps×Rc))(E:Ps)(n:Nat):Prop where
 logs:Logs D 8 24 r q p0 L E 0
 one:∀ y∈L,lenOf y.2=1
 reads:Reads D
 size:D.n=n
 off:1≤E.o∧E.o≤23
 seg:0≤E.s∧E.s≤7
 opn:∀ x,L.getLast? = some x→hasNext x.2=false
 blank:disk.sec D.now (fst 24 r q E.s+E.o.toNat)=List.replicate 64 0
end Go.Proofs.YtjkmahmoclobmaaGreat.sc

namespace Go.Proofs.YtjkmahmoclobmaaGreat.sc
open Go.RowKit mem base disk geom
open record (Rc)
theorem head_self (p:Ps)(h:(headOf p).may=true):hd.fits (headOf p).bytes p.s p.l p.v p.m=true:=by
 rw[hd.fits_bytes _ h]
 simp [headOf]
theorem first_seg {r q:Int}(hr:0≤r∧0≤q)(N:Nat)(hN:(N:Int)=2+2*r+4*q+8*24)(hN2:N≤4096)(p:Ps)(hp:0≤p.s∧p.s≤7)(hm:1≤p.m∧p.m≤1050000)(hl:1≤p.l∧p.l≤1050000)(hv:0≤p.v∧p.v≤4294967295):
  Seg (putD (Dk.new N) (fst 24 r q p.s:Int) (headOf p).bytes) (fst 24 r q p.s) 24 ⟨p.s,1,p.l,p.v,p.m⟩ [] ⟨p.s,1,p.l,p.v,p.m⟩∧(putD (Dk.new N) (fst 24 r q p.s:Int) (headOf p).bytes).n=N∧(headOf ⟨p.s,1,p.l,p.v,p.m⟩).may=true∧
  (∀ i:Int,0≤i∧i≤7→i≠p.s→∀ x:Nat,fst 24 r q i≤x→(x:Int)<fst 24 r q i+24→disk.sec (putD (Dk.new N) (fst 24 r q p.s:Int) (headOf p).bytes).now x=List.replicate 64 0):=by
 have hfs:=fst24 (i:=p.s) hr hp.1;have hmay:(headOf ⟨p.s,1,p.l,p.v,p.m⟩).may=true:=head_may _ (by dsimp only;omega) (by dsimp only;omega) (by dsimp only;omega) hv
 have hn:(Dk.new N).n=N:=by unfold Dk.n Dk.new;simp
 obtain⟨s1,s2,s3⟩:=Seg.new N (fst 24 r q p.s) 24 ⟨p.s,1,p.l,p.v,p.m⟩ (by omega) hN2 (by omega) (by omega) rfl hmay;obtain⟨e1,e2,e3,e4,e5⟩:=put_reads (Reads.new N (by omega) hN2) (fst 24 r q p.s) (headOf p).bytes 1 (by rw[hn];omega) (hd.Hd.bytes_len _);refine⟨s1,s2,hmay,fun i hi hne x hx1 hx2=> ?_⟩;have hx:=fst24 (i:=i) hr hi.1;rw[e5 x (by rw[hn];omega) (by omega)];exact sec_zeros N x (by omega)
theorem laidL_more (s l r q:Int)(D:Dk)(p:Ps)(rs:List Kr)(nx:Int)(u:Pt)(ts:List Pt):laidL s l r q D p (⟨rs,nx,false⟩::u::ts)=laidL s l r q (turnD (logD D (fst l r q p.s) l p rs).1 (fst l r q p.s) (fst l r q (nx%s)) (logD D (fst l r q p.s) l p rs).2 (nx%s) true).1 (turnD (logD D (fst l r q p.s) l p rs).1 (fst l r q p.s) (fst l r q (nx%s)) (logD D (fst l r q p.s) l p rs).2 (nx%s) true).2 (u::ts):=by
 rw[laidL,if_neg (by simp)]
theorem awake_told {r q:Int}(hr:0≤r∧0≤q)(N:Nat)(hN:(N:Int)=2+2*r+4*q+8*24)(hN2:N≤4096)(x:Int):
  ∃ p1 R1 p2 R2 p3 R3 E,(laidP 8 24 r q (Dk.new N) ⟨2,0,5,9,1⟩ [⟨[kz],6,false⟩,⟨[kz],x,false⟩]).2=E∧Rung (laidP 8 24 r q (Dk.new N) ⟨2,0,5,9,1⟩ [⟨[kz],6,false⟩,⟨[kz],x,false⟩]).1 r q ⟨2,0,5,9,1⟩ [(p1,R1),(p2,R2),(p3,R3)] E N∧p3.s=6∧p3.o=1:=by
 obtain⟨s1,s2,s3,s4⟩:=first_seg hr N hN hN2 ⟨2,0,5,9,1⟩ (by dsimp only;omega) (by dsimp only;omega) (by dsimp only;omega) (by dsimp only;omega);dsimp only at s1 s2 s3 s4;have f2:=fst24 (i:=2) hr (by omega);have f6:=fst24 (i:=6) hr (by omega);obtain⟨D,hD⟩:∃ D,putD (Dk.new N) (fst 24 r q 2:Int) (headOf ⟨2,0,5,9,1⟩).bytes=D:=⟨_,rfl⟩;rw[hD]at s1 s2 s4
 have hu:laidP 8 24 r q (Dk.new N) ⟨2,0,5,9,1⟩ [⟨[kz],6,false⟩,⟨[kz],x,false⟩]=laidL 8 24 r q D ⟨2,1,5,9,1⟩ [⟨[kz],6,false⟩,⟨[kz],x,false⟩]:=by rw[←hD];rfl
 rw[hu];obtain⟨l1,i1,i2,i3,i4,i5,i6,i7,i8,i9,i10⟩:=seg_run 1 s1 (by dsimp only;omega) (by dsimp only;omega) (by dsimp only;omega) (by dsimp only;omega)
 have he1:laidL 8 24 r q D ⟨2,1,5,9,1⟩ [⟨[kz],6,false⟩,⟨[kz],x,false⟩]=laidL 8 24 r q (turnD (logD D (fst 24 r q 2) 24 ⟨2,1,5,9,1⟩ (List.replicate 1 kz)).1 (fst 24 r q 2) (fst 24 r q 6) (logD D (fst 24 r q 2) 24 ⟨2,1,5,9,1⟩ (List.replicate 1 kz)).2 6 true).1 (turnD (logD D (fst 24 r q 2) 24 ⟨2,1,5,9,1⟩ (List.replicate 1 kz)).1 (fst 24 r q 2) (fst 24 r q 6) (logD D (fst 24 r q 2) 24 ⟨2,1,5,9,1⟩ (List.replicate 1 kz)).2 6 true).2 [⟨[kz],x,false⟩]:=by
  exact laidL_more 8 24 r q D ⟨2,1,5,9,1⟩ [kz] 6 ⟨[kz],x,false⟩ []
 rw[he1];dsimp only at i4 i5 i6 i7;obtain⟨D1,hD1⟩:∃ D1,(logD D (fst 24 r q 2) 24 ⟨2,1,5,9,1⟩ (List.replicate 1 kz)).1=D1:=⟨_,rfl⟩;obtain⟨q1,hq1⟩:∃ q1,(logD D (fst 24 r q 2) 24 ⟨2,1,5,9,1⟩ (List.replicate 1 kz)).2=q1:=⟨_,rfl⟩;rw[hD1]at i1 i9 i10 ⊢;rw[hq1]at i1 i4 i5 i6 i7 i8 ⊢
 obtain⟨t1,t2,t3,t4,t5,t6⟩:=seg_turn (s:=8) (nx:=6) (a2:=fst 24 r q 6) i1 (by omega) (by omega) (by omega) i8 (by omega) (by omega) (by omega) (by omega) (fun y hy1 hy2=>by
  rw[i10 y (by omega) (by omega)]
  exact s4 6 (by omega) (by omega) y hy1 hy2)
 obtain⟨D2,hD2⟩:∃ D2,(turnD D1 (fst 24 r q 2) (fst 24 r q 6) q1 6 true).1=D2:=⟨_,rfl⟩;rw[hD2]at t2 t3 t4 t6 ⊢;rw[t1];obtain⟨c1,c2⟩:=t6 ⟨2,0,5,9,1⟩ rfl rfl (head_self ⟨2,1,5,9,1⟩ s3);have hoff:ofSeg none 8 24 r q 2=(none,(fst 24 r q 2:Int),24):=of24 hr (by omega)
 have hw2:Way D2 8 24 r q ⟨2,0,5,9,1⟩ ([]++([]++l1++[(q1,nextR q1 6)])) (turnTo q1 6) [2]:=by
  refine .snoc [] ⟨2,0,5,9,1⟩ [] _ (behind q1 (nextR q1 6) ((nextR q1 6).sum:Int)) _ .nil ?_ (by dsimp only;rw[hoff];exact c2);unfold segOf;dsimp only;rw[hoff];exact c1
 have hsum:=sum_le (nextR q1 6);obtain⟨l2,j1,j2,j3,j4,j5,j6,j7,j8,j9,j10⟩:=seg_run 1 t4 (by dsimp only;omega) (by dsimp only;omega) (by dsimp only;omega) (by dsimp only;omega);have he2:laidL 8 24 r q D2 ⟨6,1,q1.l+1,((nextR q1 6).sum:Int),q1.m⟩ [⟨[kz],x,false⟩]=logD D2 (fst 24 r q 6) 24 ⟨6,1,q1.l+1,((nextR q1 6).sum:Int),q1.m⟩ (List.replicate 1 kz):=rfl;rw[he2];have hlog:=Seg.logs (r:=r) (q:=q) (p:=⟨6,1,q1.l+1,((nextR q1 6).sum:Int),q1.m⟩) (at_:=turnTo q1 6) hr (by dsimp only;omega) j1 rfl rfl t5
 have hall:=(hw2.same (fun i hi=>by
  rw[List.mem_singleton.1 hi]
  exact alike_of t4.reads j1.reads j9 hr (by omega) (by omega) (fun y hy1 hy2=>j10 y (by omega) (by omega)))).logs hlog
 obtain⟨⟨p1,R1⟩,rfl⟩:=List.length_eq_one_iff.1 i2;obtain⟨⟨p3,R3⟩,rfl⟩:=List.length_eq_one_iff.1 j2;have hp3:p3=⟨6,1,q1.l+1,((nextR q1 6).sum:Int),q1.m⟩:=j1.chain.1;refine⟨p1,R1,q1,nextR q1 6,p3,R3,_,rfl,⟨hall,fun y hy=> ?_,j1.reads,by omega,?_,?_,fun y hy=> ?_,?_⟩,by rw[hp3],by rw[hp3]⟩
 ·simp only[List.mem_cons,List.not_mem_nil,or_false]at hy
  rcases hy with rfl|rfl|rfl
  ·exact i3 _ (by simp)
  ·exact nextR_len q1 6
  ·exact j3 _ (by simp)
 ·rw[j4];dsimp only;omega
 ·rw[j5];dsimp only;omega
 ·have hy3:(p3,R3)=y:=by simpa using hy
  rw[←hy3];exact j1.chain.plain (p3,R3) (by simp)
 ·rw[show(logD D2 (fst 24 r q 6) 24 ⟨6,1,q1.l+1,((nextR q1 6).sum:Int),q1.m⟩ (List.replicate 1 kz)).2.s=6 from j5];exact j1.blank _ (Nat.le_refl _) (by have h4:=j4;dsimp only at h4;omega)
end Go.Proofs.YtjkmahmoclobmaaGreat.sc
