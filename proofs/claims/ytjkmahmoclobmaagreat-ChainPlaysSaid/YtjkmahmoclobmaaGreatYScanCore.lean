import Derived.Test.YtjkmahmoclobmaaGreatYDiskCore
import Derived.Test.YtjkmahmoclobmaaGreatYRecordCore
import Derived.Test.YtjkmahmoclobmaaGreatYHeadCore
namespace Go.Proofs.YtjkmahmoclobmaaGreat.sc
open Go.RowKit mem base disk
open record (Rc)
structure Ps where
 (s o l v m:Int)
deriving DecidableEq
def Ps.val (p:Ps):Value:= .agg #[.int .i64 p.s,.int .i64 p.o,.int .i64 p.l,.int .i64 p.v,.int .i64 p.m]
def Ps.zero:Ps:=⟨0,0,0,0,0⟩
def lenOf (R:Rc):Nat:=1+R.bks.length
def hasNext (R:Rc):Bool:=R.its.any fun i=>decide (i.k=7)
def behind (p:Ps)(R:Rc)(sum:Int):Ps:=⟨p.s,p.o+lenOf R,p.l+1,sum,R.m⟩
def gat (D:Dk)(a:Int):Nat→List UInt8×Int
 | 0=>([],0)
 | k+1=>if (gat D a k).2≠0 then gat D a k else((gat D a k).1++(D.read (a+k)).2,(D.read (a+k)).1)
def fits (R:Rc)(p:Ps):Bool:=decide (R.l=p.l)&&(decide (R.p=p.v)&&decide (p.m≤R.m))
def follow (D:Dk)(a size:Int)(p:Ps):Option (Rc×Int)×Int:=
 if p.o<1∨size≤p.o then(none,0)
 else if (D.read (a+p.o)).1≠0 then(none,(D.read (a+p.o)).1)
 else if record.sizeOf (D.read (a+p.o)).2=0∨size<p.o+record.sizeOf (D.read (a+p.o)).2 then(none,0)
 else if (gat D (a+p.o) (record.sizeOf (D.read (a+p.o)).2)).2≠0 then(none,(gat D (a+p.o) (record.sizeOf (D.read (a+p.o)).2)).2)
 else if (record.decode (gat D (a+p.o) (record.sizeOf (D.read (a+p.o)).2)).1).2.2=0∧fits (record.decode (gat D (a+p.o) (record.sizeOf (D.read (a+p.o)).2)).1).1 p=true
  then(some ((record.decode (gat D (a+p.o) (record.sizeOf (D.read (a+p.o)).2)).1).1,(record.decode (gat D (a+p.o) (record.sizeOf (D.read (a+p.o)).2)).1).2.1),0)
 else(none,0)
structure Seal (p:Prop):Prop where
 out:p
theorem sealed {p:Prop}(h:p):Seal p:=⟨h⟩
structure Fo (D:Dk)(a z:Int)(p:Ps)(o:Option (Rc×Int))(e:Int):Prop where
 eq:follow D a z p=(o,e)
def recs (D:Dk)(a size:Int):Nat→Ps→List (Ps×Rc)×Ps×Int
 | 0,p=>([],p,0)
 | f+1,p=>match follow D a size p with
  | (none,e)=>([],p,e)
  | (some (R,sum),_)=>if hasNext R then([(p,R)],behind p R sum,0)else((p,R)::(recs D a size f (behind p R sum)).1,(recs D a size f (behind p R sum)).2)
def start (D:Dk)(a size:Int)(p:Ps)(headed:Bool):Option Ps×Int:=
 if p.o≠0 then(some p,0)
 else if size≤0 then(none,0)
 else if (hd.decode (D.read a).2).2=0∧(headed=true∨hd.fits (D.read a).2 p.s p.l p.v p.m=true)then(some ⟨p.s,1,(hd.decode (D.read a).2).1.l,(hd.decode (D.read a).2).1.v,(hd.decode (D.read a).2).1.m⟩,(D.read a).1)
 else(none,(D.read a).1)

def scanOf (D:Dk)(a size:Int)(p:Ps)(headed:Bool):List (Ps×Rc)×Ps×Int:=
 match start D a size p headed with
 | (none,e)=>([],p,e)
 | (some q,_)=>recs D a size size.toNat q

theorem read_len64 (D:Dk)(hD:D.ok)(x:Int):(D.read x).2.length=if (D.read x).1=0 then 64 else 0:=by
 unfold Dk.read
 split
 ·simp
 ·rename_i h1
  split
  ·simp
  ·split
   ·simp
   ·have hn:0≤x∧x<D.n:=by simpa [Dk.has]using h1
    exact sec_length D.now x.toNat D.n hD.now (by omega)
theorem read_ne (D:Dk)(x:Int)(h:(D.read x).1≠0):(D.read x).2=[]:=by
 revert h
 unfold Dk.read
 split
 ·intro _;rfl
 ·split
  ·intro _;rfl
  ·split
   ·intro _;rfl
   ·intro h;exact absurd rfl h

theorem gat_len (D:Dk)(hD:D.ok)(a:Int):∀ k,((gat D a k).2=0→(gat D a k).1.length=64*k)∧((gat D a k).2≠0→∃ j,j<k∧(gat D a k).1.length=64*j)
 | 0=>⟨fun _=>rfl,fun h=>absurd rfl h⟩
 | k+1=>by
  obtain⟨h1,h2⟩:=gat_len D hD a k;have hr:=read_len64 D hD (a+k)
  by_cases hz:(gat D a k).2=0
  ·have e:gat D a (k+1)=((gat D a k).1++(D.read (a+k)).2,(D.read (a+k)).1):=by rw[gat];rw[if_neg (by simp [hz])]
   rw[e];refine⟨fun h=> ?_,fun h=>⟨k,by omega,?_⟩⟩
   ·show((gat D a k).1++(D.read (a+k)).2).length=_
    rw[List.length_append,h1 hz,hr,if_pos h];omega
   ·show((gat D a k).1++(D.read (a+k)).2).length=_
    rw[List.length_append,h1 hz,hr,if_neg h];omega
  ·have e:gat D a (k+1)=gat D a k:=by rw[gat];rw[if_pos hz]
   rw[e];refine⟨fun h=>absurd h hz,fun h=> ?_⟩;obtain⟨j,hj,hl⟩:=h2 hz;exact⟨j,by omega,hl⟩
theorem gat_le (D:Dk)(hD:D.ok)(a:Int)(k:Nat):(gat D a k).1.length≤64*k:=by
 by_cases h:(gat D a k).2=0
 ·rw[(gat_len D hD a k).1 h];exact Nat.le_refl _
 ·obtain⟨j,hj,hl⟩:=(gat_len D hD a k).2 h
  omega
theorem gat_one (D:Dk)(a:Int):gat D a 1=((D.read a).2,(D.read a).1):=by
 simp [gat]
theorem gat_stop (D:Dk)(a:Int)(k:Nat)(h:(gat D a k).2≠0):gat D a (k+1)=gat D a k:=by rw[gat];rw[if_pos h]
theorem gat_on (D:Dk)(a:Int)(k:Nat)(h:(gat D a k).2=0):gat D a (k+1)=((gat D a k).1++(D.read (a+k)).2,(D.read (a+k)).1):=by rw[gat];rw[if_neg (by simp [h])]
theorem gat_stops (D:Dk)(a:Int)(k:Nat)(h:(gat D a k).2≠0):∀ m,k≤m→gat D a m=gat D a k
 | 0,hm=>by rw[show k=0 by omega]
 | m+1,hm=>by
  by_cases hk:k=m+1
  ·rw[hk]
  ·have ih:=gat_stops D a k h m (by omega);rw[gat_stop D a m (by rw[ih];exact h),ih]
theorem gat_first (D:Dk)(a:Int)(h:(D.read a).1=0)(hl:(D.read a).2.length=64):∀ k,1≤k→(gat D a k).1.take 64=(D.read a).2
 | 0,hk=>by omega
 | 1,_=>by rw[gat_one];exact List.take_of_length_le (by rw[hl];exact Nat.le_refl _)
 | k+2,_=>by
  have ih:=gat_first D a h hl (k+1) (by omega)
  by_cases hz:(gat D a (k+1)).2=0
  ·rw[gat_on D a (k+1) hz]
   show((gat D a (k+1)).1++_).take 64=_
   have h64:64≤(gat D a (k+1)).1.length:=by
    have:=congrArg List.length ih
    rw[List.length_take,hl]at this
    omega
   rw[List.take_append_of_le_length h64,ih]
  ·rw[gat_stop D a (k+1) hz,ih]
def recW (D:Dk)(a z er:Int)(p:Ps):Rc×Int×Bool×Int:=
 if p.o<1∨z≤p.o then(Rc.zero,0,false,er)
 else if z<p.o+record.sizeOf (D.read (a+p.o)).2 then(Rc.zero,0,false,0)
 else((record.decode (gat D (a+p.o) (max (record.sizeOf (D.read (a+p.o)).2) 1)).1).1,(record.decode (gat D (a+p.o) (max (record.sizeOf (D.read (a+p.o)).2) 1)).1).2.1,decide ((record.decode (gat D (a+p.o) (max (record.sizeOf (D.read (a+p.o)).2) 1)).1).2.2=0),(gat D (a+p.o) (max (record.sizeOf (D.read (a+p.o)).2) 1)).2)

theorem size_nil:record.sizeOf []=0:=by
 unfold record.sizeOf;rw[if_neg (by simp)]
theorem follow_recW (D:Dk)(hD:D.ok)(a z:Int)(p:Ps):
  ((recW D a z 0 p).2.2.1=true∧fits (recW D a z 0 p).1 p=true∧follow D a z p=(some ((recW D a z 0 p).1,(recW D a z 0 p).2.1),0)∧(recW D a z 0 p).2.2.2=0)∨
  (((recW D a z 0 p).2.2.1=false∨fits (recW D a z 0 p).1 p=false)∧follow D a z p=(none,(recW D a z 0 p).2.2.2)):=by
 have hl:=read_len64 D hD (a+p.o);unfold recW follow
 by_cases h0:p.o<1∨z≤p.o
 ·rw[if_pos h0,if_pos h0];exact .inr ⟨.inl rfl,rfl⟩
 rw[if_neg h0,if_neg h0]
 by_cases hk:(D.read (a+p.o)).1=0
 ·rw[if_neg (show ¬(D.read (a+p.o)).1≠0 by simp [hk])];rw[if_pos hk]at hl;generalize hn:record.sizeOf (D.read (a+p.o)).2=n at*
  by_cases hz:z<p.o+n
  ·rw[if_pos hz,if_pos (.inr hz)];exact .inr ⟨.inl rfl,rfl⟩
  ·rw[if_neg hz]
   by_cases hn0:n=0
   ·rw[if_pos (.inl hn0),hn0,show max 0 1=1 from rfl,gat_one];have hd:record.decode (D.read (a+p.o)).2=(Rc.zero,0,2):=record.decode_size _ (.inr (by rw[List.take_of_length_le (by omega),hn,hn0];omega));dsimp only;rw[hd,hk];exact .inr ⟨.inl rfl,rfl⟩
   ·rw[if_neg (by omega),show max n 1=n by omega]
    by_cases hg:(gat D (a+p.o) n).2=0
    ·rw[if_neg (show ¬(gat D (a+p.o) n).2≠0 by simp [hg])]
     by_cases hd:(record.decode (gat D (a+p.o) n).1).2.2=0
     ·by_cases hf:fits (record.decode (gat D (a+p.o) n).1).1 p=true
      ·rw[if_pos ⟨hd,hf⟩];exact .inl ⟨decide_eq_true hd,hf,rfl,hg⟩
      ·rw[if_neg (fun h=>hf h.2),hg];exact .inr ⟨.inr ((Bool.not_eq_true _).mp hf),rfl⟩
     ·rw[if_neg (fun h=>hd h.1),hg];exact .inr ⟨.inl (decide_eq_false hd),rfl⟩
    ·rw[if_pos hg];obtain⟨j,hj,hjl⟩:=(gat_len D hD (a+p.o) n).2 hg;have hd:record.decode (gat D (a+p.o) n).1=(Rc.zero,0,2):=record.decode_size _ (.inr (by rw[gat_first D (a+p.o) hk hl n (by omega),hn,hjl];omega));rw[hd];exact .inr ⟨.inl rfl,rfl⟩
 ·rw[if_pos hk];have hb:=read_ne D _ hk;rw[hb,size_nil];rw[if_neg (by omega),show max 0 1=1 from rfl,gat_one,hb];have hd:record.decode ([]:List UInt8)=(Rc.zero,0,2):=record.decode_size _ (.inl (by simp));dsimp only;rw[hd];exact .inr ⟨.inl rfl,rfl⟩

theorem recs_none {D:Dk}{a z:Int}{p:Ps}{e:Int}(h:follow D a z p=(none,e))(f:Nat)(hf:p.o<1∨z≤p.o+f):recs D a z f p=([],p,e):=by
 cases f with
 | zero=>
  have h0:p.o<1∨z≤p.o:=by omega
  unfold follow at h;rw[if_pos h0]at h;injection h with _ h;rw[←h];rfl
 | succ f=>unfold recs;rw[h]
theorem follow_in {D:Dk}{a z:Int}{p:Ps}{R:Rc}{s e:Int}(h:follow D a z p=(some (R,s),e)):1≤p.o∧p.o<z:=by
 unfold follow at h
 by_cases h0:p.o<1∨z≤p.o
 ·rw[if_pos h0]at h;cases h
 ·omega
theorem follow_ok {D:Dk}(hD:D.ok){a z:Int}{p:Ps}{R:Rc}{s e:Int}(h:follow D a z p=(some (R,s),e)):R.ok∧s=R.sum∧e=0∧fits R p=true∧p.o+lenOf R≤z:=by
 rcases follow_recW D hD a z p with⟨h1,h2,h3,h4⟩|⟨_,h3⟩
 ·rw[h3]at h;injection h with h h';injection h with h;injection h with h5 h6;rw[←h5,←h6,←h'];unfold recW at h1 h2 ⊢
  by_cases h0:p.o<1∨z≤p.o
  ·rw[if_pos h0]at h1;cases h1
  rw[if_neg h0]at h1 h2 ⊢
  by_cases hz:z<p.o+record.sizeOf (D.read (a+p.o)).2
  ·rw[if_pos hz]at h1;cases h1
  rw[if_neg hz]at h1 h2 ⊢;obtain⟨T,hT,hb,hd⟩:=record.decode_yes _ (of_decide_eq_true h1);have h2':=h2;dsimp only at h2 ⊢;rw[hd]at h2 ⊢;refine⟨hT,rfl,rfl,h2,?_⟩
  -- its length
  have hl:=read_len64 D hD (a+p.o);have hle:=gat_le D hD (a+p.o) (max (record.sizeOf (D.read (a+p.o)).2) 1);rw[←hb,T.bytes_len hT]at hle;show p.o+((1+T.bks.length:Nat):Int)≤z
  by_cases hn0:record.sizeOf (D.read (a+p.o)).2=0
  ·rw[hn0]at hle;omega
  ·omega
 ·rw[h3]at h;cases h
theorem recs_last {D:Dk}{a z:Int}{p:Ps}{R:Rc}{s e:Int}(h:follow D a z p=(some (R,s),e))(f:Nat)(hf:p.o<1∨z≤p.o+f)(hn:hasNext R=true):recs D a z f p=([(p,R)],behind p R s,0):=by
 have h1:=follow_in h
 cases f with
 | zero=>omega
 | succ f=>unfold recs;rw[h];dsimp only;rw[if_pos hn]
theorem recs_more {D:Dk}{a z:Int}{p:Ps}{R:Rc}{s e:Int}(h:follow D a z p=(some (R,s),e))(f:Nat)(hf:p.o<1∨z≤p.o+f)(hn:hasNext R=false):
  ∃ f',f=f'+1∧recs D a z f p=((p,R)::(recs D a z f' (behind p R s)).1,(recs D a z f' (behind p R s)).2)∧((behind p R s).o<1∨z≤(behind p R s).o+f')∧1≤(behind p R s).o:=by
 have h1:=follow_in h
 cases f with
 | zero=>omega
 | succ f=>
  refine⟨f,rfl,?_,?_,?_⟩
  ·conv=>lhs;unfold recs
   rw[h];dsimp only;rw[hn]
   rfl
  ·unfold behind lenOf;dsimp only;omega
  ·unfold behind lenOf;dsimp only;omega
end Go.Proofs.YtjkmahmoclobmaaGreat.sc
namespace Go.Proofs.YtjkmahmoclobmaaGreat.sc
open Go.RowKit mem base disk
open record (Rc)
def putk (D:Dk)(at_:Int)(bs:List UInt8):Nat→Dk
 | 0=>D
 | k+1=>((putk D at_ bs k).write (at_+k) (sec bs k)).2
def putD (D:Dk)(at_:Int)(bs:List UInt8):Dk:=(putk D at_ bs (bs.length/64)).flush.2
structure Live (D:Dk):Prop where
 off:D.off=false
 fuse:D.fuse= -1
theorem Live.tick {D:Dk}(h:Live D):D.tick=true:=by simp [Dk.tick,h.off,h.fuse]
theorem Live.ticked {D:Dk}(h:Live D):D.ticked={D with acts:=D.acts+1}:=by
 unfold Dk.ticked;rw[if_pos h.tick,h.fuse];cases D
 simp_all
theorem Live.write {D:Dk}(h:Live D)(x:Int)(b:List UInt8)(hx:D.has x=true)(hb:b.length=64):D.write x b=(0,{D with acts:=D.acts+1,held:=D.held++[(x.toNat,b)]}):=by
 unfold Dk.write;rw[hx,hb,h.tick,h.ticked]
 rfl
theorem Live.flush {D:Dk}(h:Live D):D.flush=(0,{D with acts:=D.acts+1,safe:=D.now,held:=[]}):=by
 unfold Dk.flush;rw[h.tick,h.ticked]
 rfl
theorem Live.read {D:Dk}(h:Live D)(x:Int)(hx:D.has x=true)(hf:D.faults.getD x.toNat false=false):D.read x=(0,sec D.now x.toNat):=by
 unfold Dk.read;rw[hx,h.off,hf]
 rfl
theorem putk_live {D:Dk}(h:Live D)(hD:D.ok)(a:Nat)(bs:List UInt8)(m:Nat)(ha:a+m≤D.n)(hl:bs.length=64*m):∀ k,k≤m→
  Live (putk D a bs k)∧(putk D a bs k).ok∧(putk D a bs k).faults=D.faults∧(putk D a bs k).safe=D.safe∧(putk D a bs k).acts=D.acts+k∧(putk D a bs k).held.length=D.held.length+k∧
  (putk D a bs k).held=D.held++(List.range k).map (fun i=>(a+i,sec bs i))
 | 0,_=>⟨h,hD,rfl,rfl,rfl,rfl,by simp [putk]⟩
 | k+1,hk=>by
  obtain⟨h1,h2,h3,h4,h5,h6,h7⟩:=putk_live h hD a bs m ha hl k (by omega)
  have hn:(putk D a bs k).n=D.n:=by unfold Dk.n;rw[h3]
  have hx:(putk D a bs k).has ((a:Int)+k)=true:=by unfold Dk.has;rw[hn];exact decide_eq_true ⟨by omega,by omega⟩
  have hs:(sec bs k).length=64:=sec_length bs k m hl (by omega);have hw:=h1.write ((a:Int)+k) (sec bs k) hx hs
  have e:putk D a bs (k+1)={putk D a bs k with acts:=(putk D a bs k).acts+1,held:=(putk D a bs k).held++[(((a:Int)+k).toNat,sec bs k)]}:=by
   show((putk D a bs k).write _ _).2=_
   rw[hw]
  have ht:((a:Int)+k).toNat=a+k:=by omega
  rw[ht]at e
  have hok:(putk D a bs (k+1)).ok:=by
   have:=h2.wrote hx hs
   rw[h1.ticked,ht]at this;rw[e];exact this
  refine⟨by rw[e];exact⟨h1.off,h1.fuse⟩,hok,by rw[e];exact h3,by rw[e];exact h4,by rw[e];show _+1=_;rw[h5];omega,by rw[e];show((putk D a bs k).held++[(a+k,sec bs k)]).length=_;rw[List.length_append,h6];rfl,?_⟩;rw[e];show _++_=_;rw[h7,List.range_succ,List.map_append,List.append_assoc]
  rfl
theorem lastOf_range (i a:Nat)(bs:List UInt8)(c:List UInt8):∀ k,lastOf i c ((List.range k).map fun j=>(a+j,sec bs j))=if a≤i∧i<a+k then sec bs (i-a)else c
 | 0=>by rw[if_neg (by omega)];rfl
 | k+1=>by
  have ih:=lastOf_range i a bs c k;unfold lastOf at ih ⊢;rw[List.range_succ,List.map_append,List.foldl_append,ih]
  show(if a+k=i then sec bs k else _)=_
  by_cases h:a+k=i
  ·rw[if_pos h,if_pos (by omega),show i-a=k by omega]
  ·rw[if_neg h]
   by_cases h2:a≤i∧i<a+k
   ·rw[if_pos h2,if_pos (by omega)]
   ·rw[if_neg h2,if_neg (by omega)]
theorem putD_live {D:Dk}(h:Live D)(hD:D.ok)(a:Nat)(bs:List UInt8)(m:Nat)(ha:a+m≤D.n)(hl:bs.length=64*m):
  Live (putD D a bs)∧(putD D a bs).ok∧(putD D a bs).faults=D.faults∧(putD D a bs).acts=D.acts+m+1∧(∀ i,i<D.n→sec (putD D a bs).now i=if a≤i∧i<a+m then sec bs (i-a)else sec D.now i):=by
 obtain⟨h1,h2,h3,h4,h5,h6,h7⟩:=putk_live h hD a bs m ha hl m (Nat.le_refl _)
 have hm:bs.length/64=m:=by omega
 have e:putD D a bs={putk D a bs m with acts:=(putk D a bs m).acts+1,safe:=(putk D a bs m).now,held:=[]}:=by
  unfold putD;rw[hm,h1.flush]
 have hok:(putD D a bs).ok:=by
  have:=h2.flushed
  rw[h1.ticked]at this;rw[e];exact this
 refine⟨by rw[e];exact⟨h1.off,h1.fuse⟩,hok,by rw[e];exact h3,by rw[e];show _+1=_;rw[h5],fun i hi=> ?_⟩;rw[e];show sec (putk D a bs m).now i=_;unfold Dk.now
 have hn:(putk D a bs m).n=D.n:=by unfold Dk.n;rw[h3]
 rw[h7,h4]
 have hall:∀ x∈(List.range m).map (fun j=>(a+j,sec bs j)),x.1<D.n∧x.2.length=64:=by
  intro x hx;obtain⟨j,hj,rfl⟩:=List.mem_map.1 hx;have hj2:=List.mem_range.1 hj;exact⟨by show a+j<_;omega,sec_length bs j m hl hj2⟩
 have hspl:layH D.safe (D.held++(List.range m).map (fun j=>(a+j,sec bs j)))=layH (layH D.safe D.held) ((List.range m).map (fun j=>(a+j,sec bs j))):=by
  unfold layH;rw[List.foldl_append]
 rw[hspl,sec_layH D.n i _ (layH D.safe D.held) hD.now hall,lastOf_range]
end Go.Proofs.YtjkmahmoclobmaaGreat.sc
namespace Go.Proofs.YtjkmahmoclobmaaGreat.sc
open Go.RowKit mem base disk
open record (Rc)
structure Reads (D:Dk):Prop where
 ok:D.ok
 live:Live D
 whole:∀ i,i<D.n→D.faults.getD i false=false
theorem Reads.read {D:Dk}(h:Reads D)(s:Nat)(hs:s<D.n):D.read (s:Int)=(0,sec D.now s):=by
 have:=h.live.read (s:Int) (by unfold Dk.has;exact decide_eq_true ⟨by omega,by omega⟩) (by rw[Int.toNat_natCast];exact h.whole s hs)
 rw[this,Int.toNat_natCast]
theorem Reads.sec {D:Dk}(h:Reads D)(s:Nat)(hs:s<D.n):(sec D.now s).length=64:=sec_length _ _ _ h.ok.now hs
theorem Reads.new (n:Nat)(h1:1≤n)(h2:n≤4096):Reads (Dk.new n):=⟨Dk.new_ok n h1 h2,⟨rfl,rfl⟩,fun i hi=>by
 show(List.replicate n false).getD i false=false
 rw[List.getD_eq_getElem?_getD,List.getElem?_replicate]
 split<;>rfl⟩
def StandsAt (D:Dk)(s:Nat)(bs:List UInt8)(m:Nat):Prop:=∀ i,i<m→disk.sec D.now (s+i)=disk.sec bs i

theorem take_sec (bs:List UInt8)(k:Nat):bs.take (64*k)++disk.sec bs k=bs.take (64*(k+1)):=by
 unfold disk.sec;rw[show 64*(k+1)=64*k+64 by omega,List.take_add]
theorem gat_stands {D:Dk}(h:Reads D)(s m:Nat)(bs:List UInt8)(hs:s+m≤D.n)(hl:bs.length=64*m)(hb:StandsAt D s bs m):∀ k,k≤m→gat D (s:Int) k=(bs.take (64*k),0)
 | 0,_=>by simp [gat]
 | k+1,hk=>by
  have ih:=gat_stands h s m bs hs hl hb k (by omega);rw[gat_on D _ k (by rw[ih]),ih,show(s:Int)+(k:Int)=((s+k:Nat):Int)by omega,h.read (s+k) (by omega),hb k (by omega)];dsimp only;rw[take_sec bs k]
theorem follow_stands {D:Dk}(h:Reads D)(a:Nat)(z:Int)(p:Ps)(R:Rc)(s:Nat)(hs:(a:Int)+p.o=(s:Int))(ho:1≤p.o∧p.o+lenOf R≤z)(hn:s+lenOf R≤D.n)(hR:R.ok)(hb:StandsAt D s R.bytes (lenOf R)):
  follow D a z p=if fits R p=true then(some (R,(R.sum:Int)),0)else(none,0):=by
 have hlen:R.bytes.length=64*lenOf R:=Rc.bytes_len hR
 have hpos:1≤lenOf R:=by unfold lenOf;omega
 have h0:disk.sec R.bytes 0=R.bytes.take 64:=by simp [disk.sec]
 have hz0:record.sizeOf (R.bytes.take 64)=lenOf R:=record.size_bytes hR;have hg:=gat_stands h s (lenOf R) R.bytes hn hlen hb (lenOf R) (Nat.le_refl _);rw[List.take_of_length_le (by rw[hlen];exact Nat.le_refl _)]at hg;have hr:=h.read s (by omega);have hb0:=hb 0 (by omega);rw[Nat.add_zero,h0]at hb0;rw[hb0]at hr;unfold follow;rw[if_neg (by omega),hs,hr,if_neg (by simp)];dsimp only;rw[hz0,if_neg (by omega),hg,if_neg (by simp)];dsimp only;rw[record.decode_bytes hR]
 by_cases hf:fits R p=true
 ·rw[if_pos ⟨rfl,hf⟩,if_pos hf]
 ·rw[if_neg (fun h=>hf h.2),if_neg hf]
theorem follow_blank {D:Dk}(h:Reads D)(a:Nat)(z:Int)(p:Ps)(s:Nat)(hs:(a:Int)+p.o=(s:Int))(hn:s<D.n)(hb:record.sizeOf (disk.sec D.now s)=0):follow D a z p=(none,0):=by
 unfold follow
 by_cases h0:p.o<1∨z≤p.o
 ·rw[if_pos h0]
 ·rw[if_neg h0,hs,h.read s hn,if_neg (by simp),if_pos (.inl hb)]
theorem follow_end (D:Dk)(a z:Int)(p:Ps)(h:z≤p.o):follow D a z p=(none,0):=by
 unfold follow;rw[if_pos (.inr h)]
theorem size_zeros (n:Nat):record.sizeOf (List.replicate n 0)=0:=by
 unfold record.sizeOf;rw[if_neg]
 rintro⟨_,⟨h1,_⟩,_⟩
 rw[List.getElem?_replicate]at h1
 split at h1
 ·injection h1 with h1;cases h1
 ·cases h1
def Chain (D:Dk)(a:Nat)(z:Int):Ps→List (Ps×Rc)→Ps→Prop
 | p,[],q=>q=p
 | p,(p',R)::l,q=>p'=p∧(1≤p.o∧p.o+lenOf R≤z)∧R.ok∧fits R p=true∧hasNext R=false∧StandsAt D (a+p.o.toNat) R.bytes (lenOf R)∧Chain D a z (behind p R (R.sum:Int)) l q

section
variable {D D':Dk}{a:Nat}{z:Int}
theorem behind_o (p:Ps)(R:Rc)(s:Int):(behind p R s).o=p.o+lenOf R:=rfl
theorem Chain.le:∀ {l:List (Ps×Rc)} {p q:Ps},Chain D a z p l q→p.o≤q.o∧(p.o≤z→q.o≤z)∧(l.length:Int)≤q.o-p.o
 | [],p,q,h=>by
  have h':q=p:=h;subst h';exact⟨by omega,fun h=>h,by simp⟩
 | (_,R)::l,p,q,⟨_,h1,_,_,_,_,h2⟩=>by
  obtain⟨i1,i2,i3⟩:=h2.le;rw[behind_o]at i1 i2 i3;unfold lenOf at i1 i2 i3 h1;rw[List.length_cons];exact⟨by omega,fun _=>i2 h1.2,by omega⟩
theorem Chain.snoc:∀ {l:List (Ps×Rc)} {p q:Ps} {R:Rc},Chain D a z p l q→(1≤q.o∧q.o+lenOf R≤z)→R.ok→fits R q=true→hasNext R=false→StandsAt D (a+q.o.toNat) R.bytes (lenOf R)→Chain D a z p (l++[(q,R)]) (behind q R (R.sum:Int))
 | [],p,q,R,h,h1,h2,h3,h4,h5=>by
  have h':q=p:=h;subst h';exact⟨rfl,h1,h2,h3,h4,h5,rfl⟩
 | (_,_)::l,p,q,R,⟨e,i1,i2,i3,i4,i5,i6⟩,h1,h2,h3,h4,h5=>⟨e,i1,i2,i3,i4,i5,i6.snoc h1 h2 h3 h4 h5⟩
theorem Chain.same:∀ {l:List (Ps×Rc)} {p q:Ps},Chain D a z p l q→1≤p.o→(∀ i,a+p.o.toNat≤i→i<a+q.o.toNat→disk.sec D'.now i=disk.sec D.now i)→Chain D' a z p l q
 | [],p,q,h,_,_=>h
 | (_,R)::l,p,q,⟨e,i1,i2,i3,i4,i5,i6⟩,hp,hs=>by
  obtain⟨l1,_,_⟩:=i6.le;rw[behind_o]at l1;refine⟨e,i1,i2,i3,i4,fun i hi=> ?_,i6.same (by rw[behind_o];omega) (fun i h1 h2=>hs i (by rw[behind_o]at h1;omega) h2)⟩;rw[hs _ (by omega) (by omega)];exact i5 i hi
theorem Chain.recs (hD:Reads D)(hz:(a:Int)+z≤D.n){e:Int}:∀ {l:List (Ps×Rc)} {p q:Ps},Chain D a z p l q→follow D a z q=(none,e)→1≤p.o→∀ f:Nat,z≤p.o+f→sc.recs D a z f p=(l,q,e)
 | [],p,q,h,hf,hp,f,hf2=>by
  have h':q=p:=h;subst h';exact recs_none hf f (.inr hf2)
 | (p₁,R)::l,p,q,⟨e1,i1,i2,i3,i4,i5,i6⟩,hf,hp,f,hf2=>by
  obtain rfl:p₁=p:=e1;have hfo:=follow_stands hD a z p₁ R (a+p₁.o.toNat) (by omega) i1 (by omega) i2 i5;rw[if_pos i3]at hfo;obtain⟨f',rfl,hr,h3,h4⟩:=recs_more hfo f (.inr hf2) i4
  have:=i6.recs hD hz hf h4 f' (by rw[behind_o]at h3 h4 ⊢;omega)
  rw[hr,this]
end
theorem put_reads {D:Dk}(h:Reads D)(s:Nat)(bs:List UInt8)(m:Nat)(hs:s+m≤D.n)(hl:bs.length=64*m):
  Reads (putD D s bs)∧(putD D s bs).n=D.n∧(putD D s bs).acts=D.acts+m+1∧StandsAt (putD D s bs) s bs m∧(∀ i,i<D.n→(i<s∨s+m≤i)→disk.sec (putD D s bs).now i=disk.sec D.now i):=by
 obtain⟨h1,h2,h3,h4,h5⟩:=putD_live h.live h.ok s bs m hs hl
 have hn:(putD D s bs).n=D.n:=by unfold Dk.n;rw[h3]
 refine⟨⟨h2,h1,fun i hi=>by rw[h3];exact h.whole i (by omega)⟩,hn,h4,fun i hi=> ?_,fun i hi ho=> ?_⟩
 ·rw[h5 _ (by omega),if_pos (by omega),show s+i-s=i by omega]
 ·rw[h5 i hi,if_neg (by omega)]
end Go.Proofs.YtjkmahmoclobmaaGreat.sc
namespace Go.Proofs.YtjkmahmoclobmaaGreat.sc
open Go.RowKit mem base disk crcMath crc
open record (Rc)
end Go.Proofs.YtjkmahmoclobmaaGreat.sc
