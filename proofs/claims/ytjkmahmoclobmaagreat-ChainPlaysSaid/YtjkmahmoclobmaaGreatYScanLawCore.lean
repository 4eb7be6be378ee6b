import Derived.Test.YtjkmahmoclobmaaGreatYScanCore
import Derived.Test.YtjkmahmoclobmaaGreatYScanKitCore
import Derived.Test.YtjkmahmoclobmaaGreatYScanRef
import Derived.Test.YtjkmahmoclobmaaGreatYGeomOps
import Derived.Test.YtjkmahmoclobmaaGreatYScanToldCore
import Derived.Laws.StructEq
set_option linter.unusedSimpArgs false
namespace Go.Proofs.YtjkmahmoclobmaaGreat.sc
open Go.RowKit mem base disk
open record (Rc)
open hd (Hd)
structure Seg (D:Dk)(a:Nat)(z:Int)(p:Ps)(l:List (Ps×Rc))(q:Ps):Prop where
 reads:Reads D
 room:(a:Int)+z≤D.n
 chain:Chain D a z p l q
 first:p.o=1
 size:q.o≤z
 head:disk.sec D.now a=(headOf p).bytes
 may:(headOf p).may=true
 blank:∀ i,a+q.o.toNat≤i→(i:Int)<a+z→disk.sec D.now i=List.replicate 64 0

theorem sec_zeros (n i:Nat)(h:i<n):disk.sec (List.replicate (64*n) (0:UInt8)) i=List.replicate 64 0:=by
 unfold disk.sec;rw[List.drop_replicate,List.take_replicate]
 congr 1
 omega
theorem Seg.new (n a:Nat)(z:Int)(p:Ps)(h1:1≤n)(h2:n≤4096)(hz:1≤z)(ha:(a:Int)+z≤n)(hp:p.o=1)(hm:(headOf p).may=true):Seg (putD (Dk.new n) a (headOf p).bytes) a z p [] p∧(putD (Dk.new n) a (headOf p).bytes).n=n∧(putD (Dk.new n) a (headOf p).bytes).acts=2:=by
 have hn:(Dk.new n).n=n:=by unfold Dk.n Dk.new;simp
 obtain⟨e1,e2,e3,e4,e5⟩:=put_reads (Reads.new n h1 h2) a (headOf p).bytes 1 (by rw[hn];omega) (Hd.bytes_len _);refine⟨⟨e1,by rw[e2,hn];exact ha,rfl,hp,by omega,?_,hm,fun i hi hi2=> ?_⟩,by rw[e2,hn],by rw[e3];rfl⟩
 ·have:=e4 0 (by omega)
  rw[Nat.add_zero]at this;rw[this];unfold disk.sec;rw[Nat.mul_zero,List.drop_zero,List.take_of_length_le (by rw[Hd.bytes_len];exact Nat.le_refl _)]
 ·rw[e5 i (by rw[hn];omega) (by omega)];exact sec_zeros n i (by omega)
section
variable {D:Dk}{a:Nat}{z:Int}{p q:Ps}{l:List (Ps×Rc)}
theorem Seg.le (h:Seg D a z p l q):1≤q.o∧(l.length:Int)≤q.o-1:=by
 have:=h.chain.le
 have:=h.first
 omega
theorem Seg.follow (h:Seg D a z p l q):sc.follow D a z q=(none,0):=by
 by_cases hz:z≤q.o
 ·exact follow_end _ _ _ _ hz
 ·have h1:=h.le.1;refine follow_blank h.reads a z q (a+q.o.toNat) (by omega) (by have:=h.room;omega) ?_;rw[h.blank _ (Nat.le_refl _) (by omega)];exact size_zeros 64
theorem head_read (hR:Reads D)(hr:(a:Int)+z≤D.n)(hz:1≤z)(hh:disk.sec D.now a=(headOf p).bytes):D.read (a:Int)=(0,(headOf p).bytes):=by
 rw[hR.read a (by omega),hh]
theorem start_head (hR:Reads D)(hr:(a:Int)+z≤D.n)(hz:1≤z)(hh:disk.sec D.now a=(headOf p).bytes)(hm:(headOf p).may=true)(hp:p.o=1)(p0:Ps)(hb:Bool)(h0:p0.o=0)(hs:p0.s=p.s)(hf:hb=true∨hd.fits (headOf p).bytes p0.s p0.l p0.v p0.m=true):start D a z p0 hb=(some p,0):=by
 unfold start;rw[if_neg (by omega),if_neg (by omega),head_read hR hr hz hh];dsimp only;rw[hd.decode_bytes _ hm,if_pos ⟨rfl,hf⟩];dsimp only[headOf];rw[hs,←hp]
theorem scan_head (hR:Reads D)(hr:(a:Int)+z≤D.n)(hz:1≤z)(hh:disk.sec D.now a=(headOf p).bytes)(hm:(headOf p).may=true)(hp:p.o=1)(p0:Ps)(hb:Bool)(h0:p0.o=0)(hs:p0.s=p.s)(hf:hb=true∨hd.fits (headOf p).bytes p0.s p0.l p0.v p0.m=true){e:Int}(hc:Chain D a z p l q)(hfo:sc.follow D a z q=(none,e)):scanOf D a z p0 hb=(l,q,e):=by
 unfold scanOf;rw[start_head hR hr hz hh hm hp p0 hb h0 hs hf];dsimp only;exact hc.recs hR hr hfo (by omega) _ (by omega)
theorem Seg.toldHead (h:Seg D a z p l q)(p0:Ps)(hb:Bool)(h0:p0.o=0)(hs:p0.s=p.s)(hf:hb=true∨hd.fits (headOf p).bytes p0.s p0.l p0.v p0.m=true):scanOf D a z p0 hb=(l,q,0):=
 scan_head h.reads h.room (by have:=h.le;have:=h.size;omega) h.head h.may h.first p0 hb h0 hs hf h.chain h.follow
theorem Seg.put (h:Seg D a z p l q)(R:Rc)(hR:R.ok)(hf:fits R q=true)(hn:hasNext R=false)(hz:q.o+lenOf R≤z):
  Seg (putD D ((a:Int)+q.o.toNat) R.bytes) a z p (l++[(q,R)]) (behind q R R.sum)∧(putD D ((a:Int)+q.o.toNat) R.bytes).n=D.n∧(putD D ((a:Int)+q.o.toNat) R.bytes).acts=D.acts+lenOf R+1:=by
 have hq:=h.le.1;have hr:=h.room;have hlen:R.bytes.length=64*lenOf R:=Rc.bytes_len hR;obtain⟨e1,e2,e3,e4,e5⟩:=put_reads h.reads (a+q.o.toNat) R.bytes (lenOf R) (by omega) hlen;rw[Int.natCast_add]at e1 e2 e3 e4 e5;have hch:Chain (putD D ((a:Int)+q.o.toNat) R.bytes) a z p l q:=h.chain.same (by have:=h.first;omega) (fun i h1 h2=>e5 i (by omega) (.inl h2));refine⟨⟨e1,by rw[e2];exact hr,hch.snoc ⟨hq,hz⟩ hR hf hn e4,h.first,hz,?_,h.may,fun i h1 h2=> ?_⟩,e2,e3⟩
 ·rw[e5 a (by omega) (.inl (by omega))];exact h.head
 ·rw[behind_o]at h1;rw[e5 i (by omega) (.inr (by omega))];exact h.blank i (by omega) h2
end
theorem kplain (p:Ps)(ks:List Int)(fill:Int)(hm:1≤p.m)(hl:1≤p.l)(hv:0≤p.v∧p.v≤4294967295):(kmade p ⟨ks,fill,0,0,0⟩).m=p.m∧(kmade p ⟨ks,fill,0,0,0⟩).l=p.l∧(kmade p ⟨ks,fill,0,0,0⟩).p=p.v:=by
 refine⟨?_,?_,?_⟩
 ·dsimp only[kmade];omega
 ·dsimp only[kmade];omega
 ·dsimp only[kmade];omega
theorem fits_of {R:Rc}{p:Ps}(h1:R.l=p.l)(h2:R.p=p.v)(h3:p.m≤R.m):fits R p=true:=by
 unfold fits;rw[decide_eq_true h1,decide_eq_true h2,decide_eq_true h3]
 rfl
end Go.Proofs.YtjkmahmoclobmaaGreat.sc
namespace Go.Proofs.YtjkmahmoclobmaaGreat.sc
open Go.RowKit mem base disk
open geom (GAt Rf)
structure Desk (w w':World)(F:List Nat)(p:Nat)(G:List Nat)(rd:Nat)(g n:Nat)(b s l r q:Int):Prop where
 dd:Dd w' F p G rd (Dk.new n)
 hn:(n:Int)=2+2*r+4*q+s*l
 geo:GAt w' g b s l r q
 old:w.heap.size≤g
 new:∀ x∈F++G,g<x
 kept:Kept [] w w'

end Go.Proofs.YtjkmahmoclobmaaGreat.sc
namespace Go.Proofs.YtjkmahmoclobmaaGreat.sc
open Go.RowKit mem base disk owns
open record (Rc RcIn put5 put5_kept cell5)
open geom (GAt Rf segAt)
theorem eql_pos (p q:Ps)(W:World):(binOp .eql 24 (.agg #[.int .i64 p.s,.int .i64 p.o,.int .i64 p.l,.int .i64 p.v,.int .i64 p.m]) (.agg #[.int .i64 q.s,.int .i64 q.o,.int .i64 q.l,.int .i64 q.v,.int .i64 q.m])).run Tryz.prog W= .ok (.bool (decide (p=q))) W:=by
 rw[run_eql_struct,show(10000:Nat)=9999+1 from rfl,run_equalIn_agg W 9999 _ _ _ (by kernel_rfl) (by kernel_rfl)];obtain⟨a,b,c,d,e⟩:=p;obtain⟨a',b',c',d',e'⟩:=q;have u3:=Tryz.underlying3;simp only[Program.fieldsOf,Tryz.underlying24];go_simp
 by_cases h1:a=a'<;>by_cases h2:b=b'<;>by_cases h3:c=c'<;>by_cases h4:d=d'<;>by_cases h5:e=e'<;>simp [h1,h2,h3,h4,h5]
theorem neq_pos (p q:Ps)(W:World):(binOp .neq 24 (.agg #[.int .i64 p.s,.int .i64 p.o,.int .i64 p.l,.int .i64 p.v,.int .i64 p.m]) (.agg #[.int .i64 q.s,.int .i64 q.o,.int .i64 q.l,.int .i64 q.v,.int .i64 q.m])).run Tryz.prog W= .ok (.bool (!decide (p=q))) W:=by
 rw[run_neq_struct,show(10000:Nat)=9999+1 from rfl,run_equalIn_agg W 9999 _ _ _ (by kernel_rfl) (by kernel_rfl)];obtain⟨a,b,c,d,e⟩:=p;obtain⟨a',b',c',d',e'⟩:=q;have u3:=Tryz.underlying3;simp only[Program.fieldsOf,Tryz.underlying24];go_simp
 by_cases h1:a=a'<;>by_cases h2:b=b'<;>by_cases h3:c=c'<;>by_cases h4:d=d'<;>by_cases h5:e=e'<;>simp [h1,h2,h3,h4,h5]

theorem segAt_in {s l r q a:Int}(h:0≤a∧a≤s-1):segAt s l r q a=2+2*r+4*q+a*l:=if_pos h
theorem ofSeg_in {dv:Option Addr}{s l r q a:Int}(h:0≤a∧a≤s-1):ofSeg dv s l r q a=(dv,2+2*r+4*q+a*l,l):=by unfold ofSeg;rw[if_pos h,segAt_in h]

end Go.Proofs.YtjkmahmoclobmaaGreat.sc
namespace Go.Proofs.YtjkmahmoclobmaaGreat.sc
open Go.RowKit mem base disk
open geom (GAt Rf segAt)
structure Lw (wr w:World)(F G:List Nat)(d rd g:Nat)(D:Dk)(b s l r q:Int):Prop where
 dd:Dd wr F d G rd D
 geo:GAt wr g b s l r q
 gap:g∉F++G
 kept:Kept [] w wr
 new:∀ i∈F++G,w.heap.size≤i
section
variable {wr wr' w:World}{F G:List Nat}{d rd g:Nat}{D D':Dk}{b s l r q:Int}
theorem Lw.keep (h:Lw wr w F G d rd g D b s l r q)(k:Kept [] wr wr'):Lw wr' w F G d rd g D b s l r q:=
 ⟨h.dd.kept0 k,h.geo.kept k,h.gap,h.kept.trans k (by simp),h.new⟩
theorem Lw.put (h:Lw wr w F G d rd g D b s l r q)(t:DdTo wr wr' F d G rd D'):∃ F' G',Lw wr' w F' G' d rd g D' b s l r q∧(∀ y,y∉F++G→y<wr.heap.size→y∉F'++G')∧Kept (F++G) wr wr':=by
 obtain⟨F',G',h1,h2,h3⟩:=t;have hap:∀ y,y∉F++G→y<wr.heap.size→y∉F'++G':=fun y hy hl hm=>(h2 y hm).elim hy (fun h=>by omega);exact⟨F',G',⟨h1,h.geo.kept h3 h.gap,hap g h.gap h.geo.lt,h.kept.trans h3 (fun i hi=> .inr (h.new i hi)),fun i hi=>(h2 i hi).elim (h.new i) (fun hh=>by have:=h.kept.size;omega)⟩,hap,h3⟩
theorem Lw.of_desk {w0:World}{n:Nat}(hk:Kept [] w w0)(h:Desk w0 wr F d G rd g n b s l r q):Lw wr w F G d rd g (Dk.new n) b s l r q:=
 ⟨h.dd,h.geo,fun hm=>by have:=h.new g hm;omega,hk.trans h.kept (by simp),fun i hi=>by have h1:=h.new i hi;have h2:=h.old;have h3:=hk.size;omega⟩
end
end Go.Proofs.YtjkmahmoclobmaaGreat.sc
