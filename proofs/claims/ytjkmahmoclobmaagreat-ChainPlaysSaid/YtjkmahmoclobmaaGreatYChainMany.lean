import Derived.Test.YtjkmahmoclobmaaGreatYChainAwake
import Derived.Test.YtjkmahmoclobmaaGreatYChainLaid
import Derived.Test.YtjkmahmoclobmaaGreatYChainSmall
namespace Go.Proofs.YtjkmahmoclobmaaGreat.sc
set_option linter.unusedVariables false
open Go.RowKit mem base disk geom
open record (Rc)
theorem recs_fit {D:Dk}(hD:D.ok){a z:Int}:∀ (f:Nat) (p:Ps),∀ y∈(recs D a z f p).1,fits y.2 y.1=true
 | 0,p=>by simp [recs]
 | f+1,p=>by
  unfold recs
  rcases hf:follow D a z p with⟨o,e⟩
  cases o with
  | none=>simp
  | some y=>
   obtain⟨R0,s0⟩:=y;obtain⟨h1,_,_,h4,_⟩:=follow_ok hD hf;dsimp only
   by_cases hn:hasNext R0=true
   ·rw[if_pos hn];intro y hy;rw[List.mem_singleton.1 hy];exact h4
   ·rw[if_neg hn];intro y hy
    rcases List.mem_cons.1 hy with rfl|hy
    ·exact h4
    ·exact recs_fit hD f _ y hy
def NumL (p:Ps)(L:List (Ps×Rc))(E:Ps):Prop:=E.l=p.l+L.length∧∀ (i:Nat) (y:Ps×Rc),L[i]? = some y→y.2.l=p.l+i∧y.1.l=y.2.l∧y.1.v=y.2.p∧y.2.ok
theorem seg_num {D:Dk}(hD:D.ok){s l r q:Int}{p:Ps}{L:List (Ps×Rc)}{E:Ps}{err:Int}(h:segOf D s l r q p=(L,E,err)):NumL p L E:=by
 unfold segOf scanOf at h
 rcases hst:start D (ofSeg none s l r q p.s).2.1 (ofSeg none s l r q p.s).2.2 p false with⟨o,e⟩
 rw[hst]at h
 cases o with
 | none=>
  dsimp only at h;injection h with h1 h2;injection h2 with h2 _;subst h1 h2;exact⟨by simp,by simp⟩
 | some x=>
  dsimp only at h
  have hxl:x.l=p.l:=by
   unfold start at hst
   split at hst
   ·injection hst with h1 _;injection h1 with h1;rw[←h1]
   ·split at hst
    ·cases hst
    ·split at hst
     ·rename_i h5
      injection hst with h1 _;injection h1 with h1;rw[←h1];have h6:=h5.2.resolve_left (by simp);unfold hd.fits at h6;simp at h6;exact h6.2.2.1
     ·cases hst
  obtain⟨n1,n2⟩:=recs_num hD (ofSeg none s l r q p.s).2.2.toNat x (a:=(ofSeg none s l r q p.s).2.1) (z:=(ofSeg none s l r q p.s).2.2);have n3:=recs_fit hD (ofSeg none s l r q p.s).2.2.toNat x (a:=(ofSeg none s l r q p.s).2.1) (z:=(ofSeg none s l r q p.s).2.2);rw[h]at n1 n2 n3;refine⟨by rw[n1,hxl],fun i y hy=> ?_⟩;obtain⟨m1,m2⟩:=n2 i y hy;have m3:=n3 y (List.mem_of_getElem? hy);unfold fits at m3;simp at m3;exact⟨by rw[m1,hxl],m3.1.symm,m3.2.1.symm,m2⟩
theorem Logs.nums {D:Dk}(hD:D.ok){s l r q:Int}{p:Ps}{L:List (Ps×Rc)}{E:Ps}{err:Int}(h:Logs D s l r q p L E err):NumL p L E:=by
 induction h with
 | last p L E err at_ h hs=>exact seg_num hD h
 | more p L E err at_ L2 E2 err2 h hs h2 ih=>
  obtain⟨a1,a2⟩:=seg_num hD h;obtain⟨b1,b2⟩:=ih;obtain⟨_,c1,_⟩:=hs.done h rfl;refine⟨by rw[b1,c1,a1,List.length_append];omega,fun i y hy=> ?_⟩
  by_cases hi:i<L.length
  ·rw[List.getElem?_append_left hi]at hy;exact a2 i y hy
  ·rw[List.getElem?_append_right (by omega)]at hy;obtain⟨d1,d2⟩:=b2 _ y hy;exact⟨by rw[d1,c1,a1];omega,d2⟩
end Go.Proofs.YtjkmahmoclobmaaGreat.sc
namespace Go.Proofs.YtjkmahmoclobmaaGreat.sc
set_option linter.unusedSimpArgs false
set_option linter.unusedVariables false
open Go.RowKit mem base disk geom
open record (Rc)
open hd (Hd)
def Mk (D:Dk)(N:Nat):Prop:=∃ L:List Nat,L.length≤N∧∀ i,i<D.n→record.sizeOf (disk.sec D.now i)≠0→i∈L
theorem Mk.mono {D:Dk}{N M:Nat}(h:Mk D N)(hm:N≤M):Mk D M:=by
 obtain⟨L,h1,h2⟩:=h;exact⟨L,by omega,h2⟩
theorem Mk.new (n:Nat)(h1:1≤n)(h2:n≤4096):Mk (Dk.new n) 0:=by
 refine⟨[],Nat.le_refl _,fun i hi hne=>absurd ?_ hne⟩
 have hn:(Dk.new n).n=n:=by unfold Dk.n Dk.new;simp
 have hs:disk.sec (Dk.new n).now i=List.replicate 64 0:=by
  show disk.sec (List.replicate (64*n) (0:UInt8)) i=List.replicate 64 0;unfold disk.sec;rw[List.drop_replicate,List.take_replicate]
  congr 1
  rw[hn]at hi
  omega
 rw[hs];exact size_zeros 64
theorem Mk.put {D:Dk}{N:Nat}(h:Mk D N)(hR:Reads D)(a:Nat)(bs:List UInt8)(m:Nat)(hs:a+m≤D.n)(hl:bs.length=64*m)(hz:∀ k,1≤k→k<m→record.sizeOf (disk.sec bs k)=0):Mk (putD D a bs) (N+1):=by
 obtain⟨L,h1,h2⟩:=h;obtain⟨_,e2,_,e4,e5⟩:=put_reads hR a bs m hs hl;refine⟨a::L,by simp;omega,fun i hi hne=> ?_⟩;rw[e2]at hi
 by_cases ho:i<a∨a+m≤i
 ·rw[e5 i hi ho]at hne;exact List.mem_cons_of_mem _ (h2 i hi hne)
 ·by_cases ha:i=a
  ·rw[ha];exact List.mem_cons_self
  ·have h4:=e4 (i-a) (by omega);rw[show a+(i-a)=i by omega]at h4;rw[h4]at hne;exact absurd (hz (i-a) (by omega) (by omega)) hne
theorem flat_sec':∀ (l:List (List UInt8)) (j:Nat) (b:List UInt8),(∀ x∈l,x.length=64)→l[j]? = some b→disk.sec l.flatten j=b
 | [],j,b,_,h=>by simp at h
 | x::l,0,b,hx,h=>by
  simp at h;subst h;unfold disk.sec;rw[List.flatten_cons,Nat.mul_zero,List.drop_zero,List.take_append_of_le_length (by rw[hx x (by simp)];omega),List.take_of_length_le (by rw[hx x (by simp)];omega)]
 | x::l,j+1,b,hx,h=>by
  have ih:=flat_sec' l j b (fun y hy=>hx y (by simp [hy])) (by simpa using h);unfold disk.sec at ih ⊢;rw[List.flatten_cons,show 64*(j+1)=x.length+64*j by rw[hx x (by simp)];omega,List.drop_length_add_append,ih]
theorem kitBlk_size (x:Nat):record.sizeOf (kitBlk x)=0:=by
 have h0:(kitBlk x)[0]? = some (UInt8.ofNat ((x+3*0)%256)):=by simp [kitBlk]
 have h1:(kitBlk x)[1]? = some (UInt8.ofNat ((x+3*1)%256)):=by simp [kitBlk]
 unfold record.sizeOf;rw[if_neg]
 rintro⟨_,⟨g0,g1⟩,_⟩
 rw[h0]at g0;rw[h1]at g1;injection g0 with g0;injection g1 with g1;have j0:=congrArg UInt8.toNat g0;have j1:=congrArg UInt8.toNat g1;simp at j0 j1
 omega
theorem kitBks_size (ks:List Int)(f n:Nat):∀ b∈kitBks ks f n,record.sizeOf b=0:=by
 intro b hb;obtain⟨i,_,hb⟩:=List.mem_flatMap.1 hb;unfold kitBlocks at hb
 split at hb
 ·rw[List.mem_singleton.1 hb];exact kitBlk_size _
 ·cases hb
theorem rec_sec {R:Rc}(hR:R.ok)(k:Nat)(h1:1≤k)(hk:k<1+R.bks.length):∃ b∈R.bks,disk.sec R.bytes k=b:=by
 have h6:=hR.2.2.2.1.2
 have hf:R.first.length=64:=record.Rc.first_len _ h6
 have hall:=hR.2.2.2.2.2.2;obtain⟨b,hb⟩:∃ b,R.bks[k-1]? = some b:=⟨_,List.getElem?_eq_getElem (by omega)⟩;refine⟨b,List.mem_of_getElem? hb,?_⟩;have h2:=flat_sec' R.bks (k-1) b hall hb;unfold record.Rc.bytes record.Rc.tail;unfold disk.sec at h2 ⊢;rw[show 64*k=R.first.length+64*(k-1)by rw[hf];omega,List.drop_length_add_append];exact h2
theorem rec_size {R:Rc}(hR:R.ok)(hb:∀ b∈R.bks,record.sizeOf b=0):∀ k,1≤k→k<lenOf R→record.sizeOf (disk.sec R.bytes k)=0:=by
 intro k h1 hk;obtain⟨b,h2,h3⟩:=rec_sec hR k h1 hk;rw[h3];exact hb b h2
theorem logD_many (a:Nat)(z:Int):∀ (rs:List Kr) (D:Dk) (p:Ps) (B:Int) (N:Nat),Reads D→(a:Int)+z≤D.n→LogB p B→B+4*rs.length≤1900000→p.o≤z-1→z≤64→rs.length≤100→(∀ x∈rs,x.ks.length≤6)→Mk D N→Mk (logD D a z p rs).1 (N+rs.length)
 | [],D,p,B,N,_,_,_,_,_,_,_,_,hM=>hM
 | r::rs,D,p,B,N,hR,hn,hb,hB,ho,hz,hl,hk,hM=>by
  have hm:=hb.m;have hll:=hb.l;have hob:=hb.o;have a1:=Int.emod_nonneg (r.up+3) (show(7:Int)≠0 by omega);have a2:=Int.emod_lt_of_pos (r.up+3) (show(0:Int)<7 by omega);have s1:=Int.emod_nonneg (r.skew+2) (show(5:Int)≠0 by omega);have s2:=Int.emod_lt_of_pos (r.skew+2) (show(0:Int)<5 by omega);have hs:=sum_le (kmade p r)
  have hBB:B≤1900000:=by omega
  unfold logD
  by_cases hf:z-1<p.o+lenOf (kmade p r)
  ·rw[if_pos hf];exact hM.mono (by simp)
  ·rw[if_neg hf];have hok:=kmade_ok p r (by omega) (by omega) (hk r (by simp));have hlen:=kmade_len p r;have hks:=hk r (by simp)
   have hl7:lenOf (kmade p r)≤7:=by unfold lenOf;omega
   rw[show(a:Int)+p.o.toNat=((a+p.o.toNat:Nat):Int)by omega];obtain⟨p1,p2,p3,_,_⟩:=put_reads hR (a+p.o.toNat) (kmade p r).bytes (lenOf (kmade p r)) (by omega) (Rc.bytes_len hok);have hM1:=hM.put hR (a+p.o.toNat) (kmade p r).bytes (lenOf (kmade p r)) (by omega) (Rc.bytes_len hok) (rec_size hok (kitBks_size _ _ _))
   have hb2:LogB ⟨p.s,p.o+lenOf (kmade p r),(kmade p r).l+1,((kmade p r).sum:Int),(kmade p r).m⟩ (B+4):=by
    refine⟨by dsimp only;omega,⟨?_,?_⟩,⟨?_,?_⟩,by dsimp only;omega⟩
    ·dsimp only[kmade];omega
    ·dsimp only[kmade];omega
    ·dsimp only[kmade];omega
    ·dsimp only[kmade];omega
   rw[List.length_cons]at hB ⊢
   have:=logD_many a z rs (putD D ((a+p.o.toNat:Nat):Int) (kmade p r).bytes) ⟨p.s,p.o+lenOf (kmade p r),(kmade p r).l+1,((kmade p r).sum:Int),(kmade p r).m⟩ (B+4) (N+1) p1 (by rw[p2];exact hn) hb2 (by omega) (by dsimp only;omega) hz (by simp at hl;omega) (fun x hx=>hk x (by simp [hx])) hM1
   exact this.mono (by omega)
theorem turnD_many {D:Dk}(hR:Reads D){a a2:Nat}{p:Ps}{nx z B:Int}{N:Nat}(hb:Bool)(hn:(a:Int)+z≤D.n)(hn2:a2+1≤D.n)(hB:LogB p B)(hBB:B≤1900000)(ho:p.o≤z-1)(hnx:0≤nx∧nx≤31)(hM:Mk D N):Mk (turnD D a a2 p nx hb).1 (N+2):=by
 have hm:=hB.m;have hl:=hB.l;have ho1:=hB.o;have hok:=nextR_ok p nx (by omega) (by omega) hB.v (by omega);obtain⟨p1,p2,_,_,_⟩:=put_reads hR (a+p.o.toNat) (nextR p nx).bytes 1 (by omega) (Rc.bytes_len hok);have h1:=hM.put hR (a+p.o.toNat) (nextR p nx).bytes 1 (by omega) (Rc.bytes_len hok) (fun k h1 h2=>by omega);unfold turnD
 cases hb with
 | false=>exact h1.mono (by omega)
 | true=>exact(h1.put p1 a2 (headOf (turnTo p nx)).bytes 1 (by rw[p2];exact hn2) (hd.Hd.bytes_len _) (fun k h1 h2=>by omega)).mono (by omega)
def PtOk (t:Pt):Prop:=t.rs.length≤4∧∀ x∈t.rs,x.ks.length≤6
theorem laidL_many {b s l r q:Int}(hf:geom.Rf b s l r q)(hl:l≤64):∀ (ts:List Pt) (D:Dk) (p:Ps) (B:Int) (N:Nat),Reads D→2+2*r+4*q+s*l≤D.n→LogB p B→B+40*ts.length≤1800000→p.o≤l-1→0≤p.s∧p.s≤s-1→s≤32→(∀ t∈ts,PtOk t)→Mk D N→
  Reads (laidL s l r q D p ts).1∧(laidL s l r q D p ts).1.n=D.n∧(laidL s l r q D p ts).1.acts≤D.acts+40*ts.length∧Mk (laidL s l r q D p ts).1 (N+6*ts.length)
 | [],D,p,B,N,hR,_,_,_,_,_,_,_,hM=>⟨hR,rfl,by simp [laidL],hM⟩
 | t::ts,D,p,B,N,hR,hn,hb,hB,ho,hps,hs,hk,hM=>by
  have ht:=hk t (by simp);have hfr:=fst_room hf hps;have hok:=hf.ok;unfold geom.Ok at hok;obtain⟨i1,i2,i3,i4,i5,i6⟩:=logD_keep (fst l r q p.s) l t.rs D p B hR (by omega) hb (by have:=ht.1;simp at hB;omega) ho hl (by have:=ht.1;omega) ht.2;have hM1:=logD_many (fst l r q p.s) l t.rs D p B N hR (by omega) hb (by have:=ht.1;simp at hB;omega) ho hl (by have:=ht.1;omega) ht.2 hM;have h4:=ht.1
  cases ts with
  | nil=>
   unfold laidL;exact⟨i1,i2,by simp;omega,hM1.mono (by simp;omega)⟩
  | cons u ts=>
   have hnx:0≤t.nx%s∧t.nx%s≤s-1:=⟨Int.emod_nonneg _ (by omega),by have:=Int.emod_lt_of_pos t.nx (show(0:Int)<s by omega);omega⟩;have hfn:=fst_room hf hnx;have i4':=i4.mono (show B+4*(t.rs.length:Int)≤B+16 by omega)
   have hBl:B+40*((u::ts).length+1:Nat)≤1800000:=by simpa using hB
   have hfl:(fst l r q p.s:Int)+l≤(logD D (fst l r q p.s) l p t.rs).1.n:=by rw[i2];omega
   have hfn1:fst l r q (t.nx%s)+1≤(logD D (fst l r q p.s) l p t.rs).1.n:=by rw[i2];omega
   have hB16:B+16≤1900000:=by omega
   unfold laidL
   by_cases hlo:t.lost=true
   ·rw[if_pos hlo];obtain⟨j1,j2,j3,_,_,_⟩:=turnD_keep i1 false hfl hfn1 i4' hB16 i6 (nx:=t.nx%s) (a2:=fst l r q (t.nx%s)) (by omega);have j4:=turnD_many i1 false hfl hfn1 i4' hB16 i6 (nx:=t.nx%s) (a2:=fst l r q (t.nx%s)) (by omega) hM1;have e:(t::u::ts).length=(u::ts).length+1:=List.length_cons;exact⟨j1,by rw[j2,i2],by omega,j4.mono (by omega)⟩
   ·rw[if_neg hlo];obtain⟨j1,j2,j3,j5,j6,_⟩:=turnD_keep i1 true hfl hfn1 i4' hB16 i6 (nx:=t.nx%s) (a2:=fst l r q (t.nx%s)) (by omega);have j4:=turnD_many i1 true hfl hfn1 i4' hB16 i6 (nx:=t.nx%s) (a2:=fst l r q (t.nx%s)) (by omega) hM1;obtain⟨j7,j8⟩:=j6 rfl;obtain⟨k1,k2,k3,k4⟩:=laidL_many hf hl (u::ts) _ _ (B+17) (N+6) j1 (by rw[j2,i2];exact hn) (j7.mono (by omega)) (by rw[List.length_cons]at hBl ⊢;omega) (by rw[j8];omega) (by rw[j5];exact hnx) hs (fun x hx=>hk x (by simp [hx])) (j4.mono (by omega));have e:(t::u::ts).length=(u::ts).length+1:=List.length_cons;exact⟨k1,by rw[k2,j2,i2],by omega,k4.mono (by omega)⟩
theorem laidP_many {b s l r q:Int}(hf:geom.Rf b s l r q)(hl:l≤64){ts:List Pt}{D:Dk}{p:Ps}{N:Nat}(hR:Reads D)(hn:2+2*r+4*q+s*l≤D.n)(hm:1≤p.m∧p.m≤1050000)(hp:1≤p.l∧p.l≤1050000)(hv:0≤p.v∧p.v≤4294967295)(h8:ts.length≤8)(hps:0≤p.s∧p.s≤s-1)(hs:s≤32)(hk:∀ t∈ts,PtOk t)(hM:Mk D N):
  Reads (laidP s l r q D p ts).1∧(laidP s l r q D p ts).1.n=D.n∧(laidP s l r q D p ts).1.acts≤D.acts+400∧Mk (laidP s l r q D p ts).1 (N+50):=by
 have hok:=hf.ok;unfold geom.Ok at hok;have hfr:=fst_room hf hps;obtain⟨p1,p2,p3,_,_⟩:=put_reads hR (fst l r q p.s) (headOf p).bytes 1 (by omega) (hd.Hd.bytes_len _);have h1:=hM.put hR (fst l r q p.s) (headOf p).bytes 1 (by omega) (hd.Hd.bytes_len _) (fun k h1 h2=>by omega);unfold laidP;obtain⟨k1,k2,k3,k4⟩:=laidL_many hf hl ts (putD D (fst l r q p.s:Int) (headOf p).bytes) ⟨p.s,1,p.l,p.v,p.m⟩ 1050000 (N+1) p1 (by rw[p2];exact hn) ⟨by dsimp only;omega,hm,hp,hv⟩ (by omega) (by dsimp only;omega) hps hs hk h1;exact⟨k1,by rw[k2,p2],by omega,k4.mono (by omega)⟩
theorem inj_le:∀ (n:Nat) (g:Nat→Nat) (L:List Nat),(∀ i,i<n→g i∈L)→(∀ i j,i<n→j<n→g i=g j→i=j)→n≤L.length
 | 0,_,_,_,_=>Nat.zero_le _
 | n+1,g,L,h,hj=>by
  have hm:=h n (by omega);have ih:=inj_le n g (L.erase (g n)) (fun i hi=>(List.mem_erase_of_ne (fun e=>by have:=hj i n (by omega) (by omega) e;omega)).2 (h i (by omega))) (fun i j hi hj' e=>hj i j (by omega) (by omega) e);rw[List.length_erase_of_mem hm]at ih
  have:1≤L.length:=List.length_pos_of_mem hm
  omega
theorem read_now {D:Dk}{x:Int}(h:(D.read x).1=0):(D.read x).2=disk.sec D.now x.toNat∧0≤x∧x.toNat<D.n:=by
 unfold Dk.read at h ⊢
 by_cases hh:D.has x=true
 ·rw[if_neg (by simp [hh])]at h ⊢;have hx:=hh;unfold Dk.has at hx;have hx:=of_decide_eq_true hx
  split at h
  ·simp at h
  ·split at h
   ·simp at h
   ·rename_i h1 h2
    rw[if_neg h1,if_neg h2];exact⟨rfl,hx.1,by omega⟩
 ·rw[if_pos (by simp [hh])]at h;simp at h
theorem follow_at2 {D:Dk}{a z:Int}{p:Ps}{R:Rc}{sm:Int}(h:follow D a z p=(some (R,sm),0)):(D.read (a+p.o)).1=0∧record.sizeOf (D.read (a+p.o)).2≠0∧R=(record.decode (gat D (a+p.o) (record.sizeOf (D.read (a+p.o)).2)).1).1:=by
 unfold follow at h
 split at h
 ·cases h
 ·split at h
  ·cases h
  ·split at h
   ·cases h
   ·split at h
    ·cases h
    ·split at h
     ·rename_i h1 h2 h3 h4 h5
      injection h with h _;injection h with h;injection h with h _;exact⟨Classical.not_not.1 h2,fun e=>h3 (.inl e),h.symm⟩
     ·cases h
def toldAt (s l r q:Int)(y:Ps×Rc):Int:=(ofSeg none s l r q y.1.s).2.1+y.1.o
theorem follow_zero {D:Dk}{a z:Int}{p:Ps}{x:Rc×Int}{e:Int}(h:follow D a z p=(some x,e)):e=0:=by
 unfold follow at h
 repeat' split at h
 all_goals first|(cases h;done)|(injection h with _ h;exact h.symm)
theorem recs_told {D:Dk}{a z:Int}:∀ (f:Nat) (p:Ps),∀ y∈(recs D a z f p).1,y.1.s=p.s∧∃ sm,follow D a z y.1=(some (y.2,sm),0)
 | 0,p=>by simp [recs]
 | f+1,p=>by
  unfold recs
  rcases hf:follow D a z p with⟨o,e⟩
  cases o with
  | none=>simp
  | some y=>
   obtain⟨R0,s0⟩:=y
   have he:follow D a z p=(some (R0,s0),0):=by
    have:e=0:=follow_zero hf
    rw[hf,this]
   dsimp only
   by_cases hn:hasNext R0=true
   ·rw[if_pos hn];intro y hy;rw[List.mem_singleton.1 hy];exact⟨rfl,s0,he⟩
   ·rw[if_neg hn];intro y hy
    rcases List.mem_cons.1 hy with rfl|hy
    ·exact⟨rfl,s0,he⟩
    ·obtain⟨h1,h2⟩:=recs_told f _ y hy;exact⟨h1,h2⟩
theorem seg_told {D:Dk}{s l r q:Int}{p:Ps}{L:List (Ps×Rc)}{E:Ps}{err:Int}(h:segOf D s l r q p=(L,E,err)):∀ y∈L,∃ sm,follow D (ofSeg none s l r q y.1.s).2.1 (ofSeg none s l r q y.1.s).2.2 y.1=(some (y.2,sm),0):=by
 intro y hy;unfold segOf scanOf at h
 rcases hst:start D (ofSeg none s l r q p.s).2.1 (ofSeg none s l r q p.s).2.2 p false with⟨o,e⟩
 rw[hst]at h
 cases o with
 | none=>
  dsimp only at h;injection h with h1 _;subst h1;cases hy
 | some x=>
  dsimp only at h
  have hxs:x.s=p.s:=by
   unfold start at hst
   split at hst
   ·injection hst with h1 _;injection h1 with h1;rw[←h1]
   ·split at hst
    ·cases hst
    ·split at hst
     ·injection hst with h1 _;injection h1 with h1;rw[←h1]
     ·cases hst
  have:=recs_told (D:=D) (a:=(ofSeg none s l r q p.s).2.1) (z:=(ofSeg none s l r q p.s).2.2) (ofSeg none s l r q p.s).2.2.toNat x y (by rw[h];exact hy)
  rw[this.1,hxs];exact this.2
end Go.Proofs.YtjkmahmoclobmaaGreat.sc
