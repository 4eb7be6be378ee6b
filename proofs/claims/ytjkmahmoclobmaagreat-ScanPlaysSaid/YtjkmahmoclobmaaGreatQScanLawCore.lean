import Derived.Test.YtjkmahmoclobmaaGreatQScanCore
import Derived.Test.YtjkmahmoclobmaaGreatQScanKitCore
import Derived.Test.YtjkmahmoclobmaaGreatQGeomRef
import Derived.Test.YtjkmahmoclobmaaGreatQGeomWay
import Derived.Test.YtjkmahmoclobmaaGreatQScanToldCore
import Derived.Laws.StructEq
set_option linter.unusedSimpArgs false
set_option maxRecDepth 100000
namespace Go.Proofs.YtjkmahmoclobmaaGreat.sc
open Go.RowKit mem base disk
open record (Rc)
open hd (Hd)
structure Seg (D:Dk)(a:Nat)(z:Int)(p:Ps)(l:List (Ps×Rc))(q:Ps):Prop where
 reads:Reads D
 room:(a:Int)+z≤D.n
 chain:Chain D a z p l q
 first:p.o=1
 size:q.o≤z
 head:disk.sec D.now a=(headOf p).bytes
 may:(headOf p).may=true
 blank:∀ i,a+q.o.toNat≤i→(i:Int)<a+z→disk.sec D.now i=List.replicate 64 0

theorem sec_zeros (n i:Nat)(h:i<n):disk.sec (List.replicate (64*n) (0:UInt8)) i=List.replicate 64 0:=by
 unfold disk.sec
 rw[List.drop_replicate,List.take_replicate]
 congr 1
 omega
theorem Seg.new (n a:Nat)(z:Int)(p:Ps)(h1:1≤n)(h2:n≤4096)(hz:1≤z)(ha:(a:Int)+z≤n)(hp:p.o=1)(hm:(headOf p).may=true):Seg (putD (Dk.new n) a (headOf p).bytes) a z p [] p∧(putD (Dk.new n) a (headOf p).bytes).n=n∧(putD (Dk.new n) a (headOf p).bytes).acts=2:=by
 have hn:(Dk.new n).n=n:=by unfold Dk.n Dk.new;simp
 obtain⟨e1,e2,e3,e4,e5⟩:=put_reads (Reads.new n h1 h2) a (headOf p).bytes 1 (by rw[hn];omega) (Hd.bytes_len _)
 refine⟨⟨e1,by rw[e2,hn];exact ha,rfl,hp,by omega,?_,hm,fun i hi hi2=> ?_⟩,by rw[e2,hn],by rw[e3];rfl⟩
 ·have:=e4 0 (by omega)
  rw[Nat.add_zero]at this
  rw[this]
  unfold disk.sec
  rw[Nat.mul_zero,List.drop_zero,List.take_of_length_le (by rw[Hd.bytes_len];exact Nat.le_refl _)]
 ·rw[e5 i (by rw[hn];omega) (by omega)]
  exact sec_zeros n i (by omega)
section
variable {D:Dk}{a:Nat}{z:Int}{p q:Ps}{l:List (Ps×Rc)}
theorem Seg.le (h:Seg D a z p l q):1≤q.o∧(l.length:Int)≤q.o-1:=by
 have:=h.chain.le
 have:=h.first
 omega
theorem Seg.follow (h:Seg D a z p l q):sc.follow D a z q=(none,0):=by
 by_cases hz:z≤q.o
 ·exact follow_end _ _ _ _ hz
 ·have h1:=h.le.1
  refine follow_blank h.reads a z q (a+q.o.toNat) (by omega) (by have:=h.room;omega) ?_
  rw[h.blank _ (Nat.le_refl _) (by omega)]
  exact size_zeros 64
theorem Seg.told (h:Seg D a z p l q):scanOf D a z p false=(l,q,0):=
 h.chain.scan h.reads h.room (by have:=h.le;have:=h.size;omega) h.follow (by have:=h.first;omega)
theorem head_read (hR:Reads D)(hr:(a:Int)+z≤D.n)(hz:1≤z)(hh:disk.sec D.now a=(headOf p).bytes):D.read (a:Int)=(0,(headOf p).bytes):=by
 rw[hR.read a (by omega),hh]
theorem start_head (hR:Reads D)(hr:(a:Int)+z≤D.n)(hz:1≤z)(hh:disk.sec D.now a=(headOf p).bytes)(hm:(headOf p).may=true)(hp:p.o=1)(p0:Ps)(hb:Bool)(h0:p0.o=0)(hs:p0.s=p.s)(hf:hb=true∨hd.fits (headOf p).bytes p0.s p0.l p0.v p0.m=true):start D a z p0 hb=(some p,0):=by
 unfold start
 rw[if_neg (by omega),if_neg (by omega),head_read hR hr hz hh]
 dsimp only
 rw[hd.decode_bytes _ hm,if_pos ⟨rfl,hf⟩]
 dsimp only[headOf]
 rw[hs,←hp]
theorem scan_head (hR:Reads D)(hr:(a:Int)+z≤D.n)(hz:1≤z)(hh:disk.sec D.now a=(headOf p).bytes)(hm:(headOf p).may=true)(hp:p.o=1)(p0:Ps)(hb:Bool)(h0:p0.o=0)(hs:p0.s=p.s)(hf:hb=true∨hd.fits (headOf p).bytes p0.s p0.l p0.v p0.m=true){e:Int}(hc:Chain D a z p l q)(hfo:sc.follow D a z q=(none,e)):scanOf D a z p0 hb=(l,q,e):=by
 unfold scanOf
 rw[start_head hR hr hz hh hm hp p0 hb h0 hs hf]
 dsimp only
 exact hc.recs hR hr hfo (by omega) _ (by omega)
theorem Seg.toldHead (h:Seg D a z p l q)(p0:Ps)(hb:Bool)(h0:p0.o=0)(hs:p0.s=p.s)(hf:hb=true∨hd.fits (headOf p).bytes p0.s p0.l p0.v p0.m=true):scanOf D a z p0 hb=(l,q,0):=
 scan_head h.reads h.room (by have:=h.le;have:=h.size;omega) h.head h.may h.first p0 hb h0 hs hf h.chain h.follow
theorem Seg.put (h:Seg D a z p l q)(R:Rc)(hR:R.ok)(hf:fits R q=true)(hn:hasNext R=false)(hz:q.o+lenOf R≤z):
  Seg (putD D ((a:Int)+q.o.toNat) R.bytes) a z p (l++[(q,R)]) (behind q R R.sum)∧(putD D ((a:Int)+q.o.toNat) R.bytes).n=D.n∧(putD D ((a:Int)+q.o.toNat) R.bytes).acts=D.acts+lenOf R+1:=by
 have hq:=h.le.1
 have hr:=h.room
 have hlen:R.bytes.length=64*lenOf R:=Rc.bytes_len hR
 obtain⟨e1,e2,e3,e4,e5⟩:=put_reads h.reads (a+q.o.toNat) R.bytes (lenOf R) (by omega) hlen
 rw[Int.natCast_add]at e1 e2 e3 e4 e5
 have hch:Chain (putD D ((a:Int)+q.o.toNat) R.bytes) a z p l q:=h.chain.same (by have:=h.first;omega) (fun i h1 h2=>e5 i (by omega) (.inl h2))
 refine⟨⟨e1,by rw[e2];exact hr,hch.snoc ⟨hq,hz⟩ hR hf hn e4,h.first,hz,?_,h.may,fun i h1 h2=> ?_⟩,e2,e3⟩
 ·rw[e5 a (by omega) (.inl (by omega))]
  exact h.head
 ·rw[behind_o]at h1
  rw[e5 i (by omega) (.inr (by omega))]
  exact h.blank i (by omega) h2
end
theorem kplain (p:Ps)(ks:List Int)(fill:Int)(hm:1≤p.m)(hl:1≤p.l)(hv:0≤p.v∧p.v≤4294967295):(kmade p ⟨ks,fill,0,0,0⟩).m=p.m∧(kmade p ⟨ks,fill,0,0,0⟩).l=p.l∧(kmade p ⟨ks,fill,0,0,0⟩).p=p.v:=by
 refine⟨?_,?_,?_⟩
 ·dsimp only[kmade];omega
 ·dsimp only[kmade];omega
 ·dsimp only[kmade];omega
theorem fits_of {R:Rc}{p:Ps}(h1:R.l=p.l)(h2:R.p=p.v)(h3:p.m≤R.m):fits R p=true:=by
 unfold fits
 rw[decide_eq_true h1,decide_eq_true h2,decide_eq_true h3]
 rfl
theorem Seg.log {D:Dk}{a:Nat}{z:Int}{p q:Ps}{l:List (Ps×Rc)}(h:Seg D a z p l q)(ks:List Int)(fill:Int)(h6:ks.length≤6)(hm:1≤q.m∧q.m≤2000000)(hl:1≤q.l∧q.l≤2000000)(hv:0≤q.v∧q.v≤4294967295)(hz:q.o+7≤z-1):
  ∃ R,R=kmade q ⟨ks,fill,0,0,0⟩∧(R.ok∧lenOf R≤7)∧(logD D a z q [⟨ks,fill,0,0,0⟩]).2=behind q R R.sum∧Seg (logD D a z q [⟨ks,fill,0,0,0⟩]).1 a z p (l++[(q,R)]) (behind q R R.sum)∧(logD D a z q [⟨ks,fill,0,0,0⟩]).1.n=D.n∧(logD D a z q [⟨ks,fill,0,0,0⟩]).1.acts≤D.acts+8:=by
 obtain⟨R,hR⟩:∃ R,R=kmade q ⟨ks,fill,0,0,0⟩:=⟨_,rfl⟩
 obtain⟨k1,k2,k3⟩:=kplain q ks fill hm.1 hl.1 hv
 have hok:R.ok:=by rw[hR];exact kmade_ok q _ (by omega) (by omega) h6
 have hnx:hasNext R=false:=by rw[hR];exact kmade_next q _
 have hle:lenOf R≤7:=by
  have h1:=hok.few
  unfold lenOf
  omega
 rw[←hR]at k1 k2 k3
 have hfit:=fits_of (p:=q) k2 k3 (by omega)
 obtain⟨s1,s2,s3⟩:=h.put R hok hfit hnx (by omega)
 have he:logD D a z q [⟨ks,fill,0,0,0⟩]=(putD D ((a:Int)+q.o.toNat) R.bytes,behind q R R.sum):=by
  unfold logD
  rw[←hR,if_neg (by omega)]
  unfold logD behind
  rw[k1,k2]
 rw[he]
 exact⟨R,hR,⟨hok,hle⟩,rfl,s1,s2,by rw[s3];omega⟩
end Go.Proofs.YtjkmahmoclobmaaGreat.sc
namespace Go.Proofs.YtjkmahmoclobmaaGreat.sc
open Go.RowKit mem base disk
open geom (GAt Rf)
structure Desk (w w':World)(F:List Nat)(p:Nat)(G:List Nat)(rd:Nat)(g n:Nat)(b s l r q:Int):Prop where
 dd:Dd w' F p G rd (Dk.new n)
 hn:(n:Int)=2+2*r+4*q+s*l
 geo:GAt w' g b s l r q
 old:w.heap.size≤g
 new:∀ x∈F++G,g<x
 kept:Kept [] w w'

theorem desk_any (b s l:Int)(w:World)(h:geom.Ok b s l):
  Calls Tryz.prog 11 #[.agg #[.int .i64 b,.int .i64 s,.int .i64 l]] w fun e w'=>∃ F p G rd g n r q,e= .returned (.tuple #[.pointer (some ⟨p,0,none⟩),.pointer (some ⟨rd,0,none⟩),.pointer (some ⟨g,0,none⟩),.bool true])∧Desk w w' F p G rd g n b s l r q:=by
 have hk0:=(Kept.refl [] w).alloc (.cells #[.int .i64 b,.int .i64 s,.int .i64 l] 29)
 have hb0:=Blk.new w 29 #[.int .i64 b,.int .i64 s,.int .i64 l]
 obtain⟨b4,hb4⟩:∃ b4,w.heap.size=b4:=⟨_,rfl⟩
 rw[hb4]at hb0
 obtain⟨w1,hw1⟩:∃ w1,w.alloc (.cells #[.int .i64 b,.int .i64 s,.int .i64 l] 29)=w1:=⟨_,rfl⟩
 rw[hw1]at hk0 hb0
 have HB:=hide hb0
 have HK:=hide hk0
 have H:=hide h
 obtain⟨c0,c1,c2⟩:w1.cell? ⟨b4,0,none⟩=some (.int .i64 b)∧w1.cell? ⟨b4,1,none⟩=some (.int .i64 s)∧w1.cell? ⟨b4,2,none⟩=some (.int .i64 l):=⟨hb0.cell 0,hb0.cell 1,hb0.cell 2⟩
 clear hk0 hb0 h
 go_enter Tryz.func11,Tryz.ntmps11
 go_wp2_with fail
 refine(geom.new_yes b s l _ H.out).mono ?_
 rintro e w2 ⟨g,r,q,rfl,hg,hge,hk2⟩
 have HG:=hide hg
 have HGE:=hide hge
 have HB2:=hide (hk2.blk HB.out (by simp))
 have HK2:=hide (HK.out.trans hk2 (by simp))
 have HK12:=hide hk2.size
 obtain⟨d0,d1,d2⟩:w2.cell? ⟨b4,0,none⟩=some (.int .i64 b)∧w2.cell? ⟨b4,1,none⟩=some (.int .i64 s)∧w2.cell? ⟨b4,2,none⟩=some (.int .i64 l):=⟨HB2.out.cell 0,HB2.out.cell 1,HB2.out.cell 2⟩
 clear c0 c1 c2 hg hge hk2
 go_wp2_with fail
 refine(geom.rsectors b s l r q _ HG.out.rf).mono ?_
 rintro e w3 ⟨rfl,hk3⟩
 have hbd:=HG.out.bounds
 have hok:=HG.out.ok
 unfold geom.Ok at hok
 have hm:=geom.mul_le (i:=s) (s:=s) (l:=l) (by omega) (by omega) (by omega) (by omega) (by omega)
 obtain⟨n,hn⟩:∃ n:Nat,(n:Int)=2+2*r+4*q+s*l:=⟨(2+2*r+4*q+s*l).toNat,by omega⟩
 have hn1:1≤n∧n≤4096:=by omega
 have HN:=hide hn
 have HG3:=hide (HG.out.kept hk3)
 have HK3:=hide (HK2.out.trans hk3 (by simp))
 have hk3s:=hk3.size
 rw[←hn]
 clear hbd hok hm hn hk3
 go_wp2_with fail
 refine(two_at (n:Int) n rfl _ hn1.1 hn1.2).mono ?_
 rintro e w4 ⟨F,p,G,rd,rfl,hpr⟩
 have HP:=hide hpr
 clear hpr
 go_wp2
 have hkm:=HP.out.a.2.2
 refine bodyPost_ret (v:= .tuple #[.pointer (some ⟨p,0,none⟩),.pointer (some ⟨rd,0,none⟩),.pointer (some ⟨g,0,none⟩),.bool true]) (by simp [results,Tryz.results11,go_sem]) rfl ⟨F,p,G,rd,g,n,r,q,rfl,⟨⟨HP.out.a.1,HP.out.b,HP.out.sep⟩,HN.out,HG3.out.kept hkm,?_,?_,HK3.out.trans hkm (by simp)⟩⟩
 ·exact Nat.le_trans HK.out.size HGE.out
 ·intro x hx
  have:=HG3.out.lt
  rcases List.mem_append.1 hx with hx|hx
  ·have:=HP.out.a.2.1 x hx;omega
  ·have:=HP.out.new x hx;omega
end Go.Proofs.YtjkmahmoclobmaaGreat.sc
namespace Go.Proofs.YtjkmahmoclobmaaGreat.sc
open Go.RowKit mem base disk owns
open record (Rc RcIn put5 put5_kept cell5)
open geom (GAt Rf segAt)
theorem eql_pos (p q:Ps)(W:World):(binOp .eql 24 (.agg #[.int .i64 p.s,.int .i64 p.o,.int .i64 p.l,.int .i64 p.v,.int .i64 p.m]) (.agg #[.int .i64 q.s,.int .i64 q.o,.int .i64 q.l,.int .i64 q.v,.int .i64 q.m])).run Tryz.prog W= .ok (.bool (decide (p=q))) W:=by
 rw[run_eql_struct,show(10000:Nat)=9999+1 from rfl,run_equalIn_agg W 9999 _ _ _ (by kernel_rfl) (by kernel_rfl)]
 obtain⟨a,b,c,d,e⟩:=p
 obtain⟨a',b',c',d',e'⟩:=q
 have u3:=Tryz.underlying3
 simp only[Program.fieldsOf,Tryz.underlying24]
 go_simp
 by_cases h1:a=a'<;>by_cases h2:b=b'<;>by_cases h3:c=c'<;>by_cases h4:d=d'<;>by_cases h5:e=e'<;>simp [h1,h2,h3,h4,h5]
theorem neq_pos (p q:Ps)(W:World):(binOp .neq 24 (.agg #[.int .i64 p.s,.int .i64 p.o,.int .i64 p.l,.int .i64 p.v,.int .i64 p.m]) (.agg #[.int .i64 q.s,.int .i64 q.o,.int .i64 q.l,.int .i64 q.v,.int .i64 q.m])).run Tryz.prog W= .ok (.bool (!decide (p=q))) W:=by
 rw[run_neq_struct,show(10000:Nat)=9999+1 from rfl,run_equalIn_agg W 9999 _ _ _ (by kernel_rfl) (by kernel_rfl)]
 obtain⟨a,b,c,d,e⟩:=p
 obtain⟨a',b',c',d',e'⟩:=q
 have u3:=Tryz.underlying3
 simp only[Program.fieldsOf,Tryz.underlying24]
 go_simp
 by_cases h1:a=a'<;>by_cases h2:b=b'<;>by_cases h3:c=c'<;>by_cases h4:d=d'<;>by_cases h5:e=e'<;>simp [h1,h2,h3,h4,h5]
theorem Dd.dsk {w:World}{F G:List Nat}{d rd:Nat}{D:Dk}(h:Dd w F d G rd D)(z:Int):Dsk w F (some ⟨d,0,none⟩) z D:=fun _=>⟨d,rfl,h.a⟩
theorem segAt_in {s l r q a:Int}(h:0≤a∧a≤s-1):segAt s l r q a=2+2*r+4*q+a*l:=if_pos h
theorem ofSeg_in {dv:Option Addr}{s l r q a:Int}(h:0≤a∧a≤s-1):ofSeg dv s l r q a=(dv,2+2*r+4*q+a*l,l):=by unfold ofSeg;rw[if_pos h,segAt_in h]

theorem awk5 {W W':World}{b:Nat}{v0 v1 v2 v3 v4:Value}(h:W.cell? ⟨b,0,none⟩=some v0∧W.cell? ⟨b,1,none⟩=some v1∧W.cell? ⟨b,2,none⟩=some v2∧W.cell? ⟨b,3,none⟩=some v3∧W.cell? ⟨b,4,none⟩=some v4)(k:Kept [] W W'):
  W'.cell? ⟨b,0,none⟩=some v0∧W'.cell? ⟨b,1,none⟩=some v1∧W'.cell? ⟨b,2,none⟩=some v2∧W'.cell? ⟨b,3,none⟩=some v3∧W'.cell? ⟨b,4,none⟩=some v4:=
 ⟨k.cell h.1 (by simp),k.cell h.2.1 (by simp),k.cell h.2.2.1 (by simp),k.cell h.2.2.2.1 (by simp),k.cell h.2.2.2.2 (by simp)⟩
set_option maxHeartbeats 8000000 in
theorem awake_any (w:World):Calls Tryz.prog 9 #[] w fun e w'=>e= .returned (.bool true)∧Kept [] w w':=by
 obtain⟨b1,hb1⟩:∃ b1,w.heap.size=b1:=⟨_,rfl⟩
 obtain⟨w1,hw1⟩:∃ w1,w.alloc (.cells #[.int .i64 2,.int .i64 8,.int .i64 24] 29)=w1:=⟨_,rfl⟩
 have k1:Kept [] w w1:=by rw[←hw1];exact(Kept.refl [] w).alloc _
 have m1:Blk w1 b1 29 #[.int .i64 2,.int .i64 8,.int .i64 24]:=by rw[←hw1,←hb1];exact Blk.new w _ _
 have HK1:=hide k1
 have HM1:=hide m1
 have HSZ:=hide (show w.heap.size≤b1 by omega)
 obtain⟨c0,c1,c2⟩:w1.cell? ⟨b1,0,none⟩=some (.int .i64 2)∧w1.cell? ⟨b1,1,none⟩=some (.int .i64 8)∧w1.cell? ⟨b1,2,none⟩=some (.int .i64 24):=⟨m1.cell 0,m1.cell 1,m1.cell 2⟩
 clear k1 m1
 go_enter Tryz.func9,Tryz.ntmps9
 go_wp2_with fail
 refine(desk_any 2 8 24 _ (by unfold geom.Ok;omega)).mono ?_
 rintro e w2 ⟨F,d,G,rd,g,n,r,q,rfl,hdk⟩
 have HDK:=hide hdk
 clear hdk
 obtain⟨b6,hb6⟩:∃ b6,w2.heap.size=b6:=⟨_,rfl⟩
 obtain⟨w3,hw3⟩:∃ w3,w2.alloc (.cells #[.int .i64 2,.int .i64 0,.int .i64 5,.int .i64 9,.int .i64 1] 24)=w3:=⟨_,rfl⟩
 have k3:Kept [] w2 w3:=by rw[←hw3];exact(Kept.refl [] w2).alloc _
 have m6:Blk w3 b6 24 #[.int .i64 2,.int .i64 0,.int .i64 5,.int .i64 9,.int .i64 1]:=by rw[←hw3,←hb6];exact Blk.new w2 _ _
 have hbd:=HDK.out.geo.bounds
 have hok:=HDK.out.geo.ok
 obtain⟨a,haa⟩:∃ a:Nat,2+2*r+4*q+2*24=(a:Int):=⟨(2+2*r+4*q+2*24).toNat,by omega⟩
 have hnn:=HDK.out.hn
 have hn4:1≤n∧n≤4096:=by omega
 have HN:=hide (show(a:Int)+24≤n∧a≤4000 by omega)
 obtain⟨hsg,hdn,hda⟩:=Seg.new n a 24 ⟨2,1,5,9,1⟩ hn4.1 hn4.2 (by omega) HN.out.1 rfl (by decide)
 obtain⟨D1,hD1⟩:∃ D1,putD (Dk.new n) (a:Int) (headOf ⟨2,1,5,9,1⟩).bytes=D1:=⟨_,rfl⟩
 rw[hD1]at hsg hdn hda
 have HD1E:=sealed hD1
 have HSG:=hide hsg
 have HDN:=hide hdn
 have HDA:=hide hda
 have HAA:=hide haa
 have HN4:=hide hn4
 have HRF:=hide HDK.out.geo.rf
 have HG:=hide (HDK.out.geo.kept k3)
 have HM6:=hide m6
 have HM1b:=hide (k3.blk (HDK.out.kept.blk HM1.out (by simp)) (by simp))
 have HK3:=hide ((HK1.out.trans HDK.out.kept (by simp)).trans k3 (by simp))
 have HDD:=hide (HDK.out.dd.kept0 k3)
 have HFG:=hide (show ∀ x∈F++G,b1<x∧x<b6 from fun x hx=>by
  have h1:=HDK.out.new x hx
  have h2:=HDK.out.old
  have h3:=HM1.out.lt
  have h4:=HDK.out.dd.lt x hx
  omega)
 have HGL:=hide (show g<b6 from by have:=HDK.out.geo.lt;omega)
 have HGF:=hide (show g∉F++G from fun hm=>by have:=HDK.out.new g hm;omega)
 have HD0:=hide (Reads.new n hn4.1 hn4.2)
 have HDNN:=hide (show(Dk.new n).n=n by unfold Dk.n Dk.new;simp)
 have HB16:=hide (show b1<b6 from by have h1:=HM1.out.lt;have h2:=HDK.out.kept.size;omega)
 obtain⟨d0,d1,d2⟩:w3.cell? ⟨b1,0,none⟩=some (.int .i64 2)∧w3.cell? ⟨b1,1,none⟩=some (.int .i64 8)∧w3.cell? ⟨b1,2,none⟩=some (.int .i64 24):=⟨HM1b.out.cell 0,HM1b.out.cell 1,HM1b.out.cell 2⟩
 obtain⟨p0,p1,p2,p3,p4⟩:=cell5 HM6.out
 clear hD1 c0 c1 c2 k3 m6 hbd hok haa hnn hn4 hsg hdn hda HM1 HK1 HDK hw1
 go_wp2_with fail
 refine(khead_any F G d rd (Dk.new n) ⟨2,0,5,9,1⟩ 2 8 24 r q a _ HDD.out HD0.out HRF.out (by decide) (by decide) HAA.out (by rw[HDNN.out];have:=HN.out;omega) (by simp [Dk.new])).mono ?_
 rintro e w4 ⟨rfl,F1,G1,hd1,hs1,hk1⟩
 have HD1:=hide (show Dd w4 F1 d G1 rd D1 from by rw[←HD1E.out];exact hd1)
 have HAP1:=hide (show ∀ y,(y=b1∨y=b6∨y=g)→y∉F1++G1 from fun y hy hm=>by
  have h6:=HM6.out.lt
  have h1:=HB16.out
  have h2:=HGL.out
  rcases hs1 y hm with h|h
  ·have h3:=HFG.out y h
   rcases hy with rfl|rfl|rfl
   ·omega
   ·omega
   ·exact HGF.out h
  ·omega)
 have HAP0:=hide (show ∀ y,(y=b1∨y=b6∨y=g)→y∉F++G from fun y hy hm=>by
  have h3:=HFG.out y hm
  rcases hy with rfl|rfl|rfl
  ·omega
  ·omega
  ·exact HGF.out hm)
 have HM1c:=hide (hk1.blk HM1b.out (HAP0.out _ (.inl rfl)))
 have HM6c:=hide (hk1.blk HM6.out (HAP0.out _ (.inr (.inl rfl))))
 have HGc:=hide (HG.out.kept hk1 (HAP0.out _ (.inr (.inr rfl))))
 have HKc:=hide (HK3.out.trans hk1 (fun i hi=> .inr (by have:=HFG.out i hi;have:=HSZ.out;omega)))
 have HLT1:=hide hd1.lt
 have HFGL:=hide (show ∀ i∈F1++G1,w.heap.size≤i from fun i hi=>(hs1 i hi).elim (fun h=>by have:=HFG.out i h;have:=HSZ.out;omega) (fun h=>by have:=HK3.out.size;omega))
 clear hd1 hs1 hk1 p0 p1 p2 p3 p4 d0 d1 d2 HM1b HM6 HG HK3 HDD hw3
 obtain⟨p0,p1,p2,p3,p4⟩:=cell5 HM6c.out
 go_wp2_with fail
 refine(new_any d g 2 8 24 r q ⟨2,0,5,9,1⟩ _ HGc.out).mono ?_
 rintro e w5 ⟨x,rfl,hx,hsc,hk5⟩
 rw[ofSeg_in (by decide)]at hsc
 dsimp only at hsc
 rw[HAA.out]at hsc
 have HSC:=hide hsc
 have HX:=hide (show x∉F1++G1∧(x≠b1∧x≠b6∧x≠g)from⟨fun hm=>by have:=HLT1.out x hm;omega,by have:=HM1c.out.lt;have:=HM6c.out.lt;have:=HGc.out.lt;omega⟩)
 have HM1d:=hide (hk5.blk HM1c.out (by simp))
 have HM6d:=hide (hk5.blk HM6c.out (by simp))
 have HGd:=hide (HGc.out.kept hk5)
 have HKd:=hide (HKc.out.trans hk5 (by simp))
 have HDd:=hide (HD1.out.kept0 hk5)
 have HFX:=hide (show w.heap.size≤x from by have h1:=HKc.out.size;omega)
 clear hx hsc hk5 p0 p1 p2 p3 p4 HM1c HM6c HGc HKc HD1
 obtain⟨p0,p1,p2,p3,p4⟩:=cell5 HM6d.out
 go_wp2_with fail
 refine(new_nil (.pointer (some ⟨g,0,none⟩)) ⟨2,0,5,9,1⟩ _).mono ?_
 rintro e w6 ⟨rfl,hk6⟩
 have HGe:=hide (HGd.out.kept hk6)
 have HK6:=hide hk6
 clear hk6 p0 p1 p2 p3 p4
 go_wp2_with fail
 refine(segment_none d g 2 8 24 r q 8 _ HGe.out (by decide)).mono ?_
 rintro e w7 ⟨rfl,hk7⟩
 have HK57:=hide (HK6.out.trans hk7 (by simp))
 have HM1e:=hide (HK57.out.blk HM1d.out (by simp))
 have HM6e:=hide (HK57.out.blk HM6d.out (by simp))
 have HSCe:=hide (HSC.out.kept HK57.out (by simp))
 have HKe:=hide (HKd.out.trans HK57.out (by simp))
 have HDe:=hide (HDd.out.kept0 HK57.out)
 clear hk7 HGe HK6 HK57 HM1d HM6d HSC HKd HDd HGd
 go_wp2_with fail
 refine(end_any x _ _ _ _ _ _ _ _ HSCe.out).mono ?_
 rintro e w8 ⟨rfl,hk8⟩
 obtain⟨b8,hb8⟩:∃ b8,w8.heap.size=b8:=⟨_,rfl⟩
 obtain⟨w9,hw9⟩:∃ w9,w8.alloc (.cells #[.int .i64 2,.int .i64 0,.int .i64 5,.int .i64 9,.int .i64 1] 24)=w9:=⟨_,rfl⟩
 have k9:Kept [] w8 w9:=by rw[←hw9];exact(Kept.refl [] w8).alloc _
 have HK79:=hide (hk8.trans k9 (by simp))
 have HM8:Hid (Blk w9 b8 24 #[.int .i64 2,.int .i64 0,.int .i64 5,.int .i64 9,.int .i64 1]):=hide (by rw[←hw9,←hb8];exact Blk.new w8 _ _)
 have HM1f:=hide (HK79.out.blk HM1e.out (by simp))
 have HM6f:=hide (HK79.out.blk HM6e.out (by simp))
 have HSCf:=hide (HSCe.out.kept HK79.out (by simp))
 have HKf:=hide (HKe.out.trans HK79.out (by simp))
 have HDf:=hide (HDe.out.kept0 HK79.out)
 have HB8:=hide (show x<b8∧b1<b8∧b6<b8∧(∀ y∈F1++G1,y<b8)from⟨by have:=HSCe.out.lt;have:=hk8.size;omega,by have:=HM1e.out.lt;have:=hk8.size;omega,by have:=HM6e.out.lt;have:=hk8.size;omega,fun y hy=>by have:=HDe.out.lt y hy;have:=hk8.size;omega⟩)
 unfold Ps.val
 dsimp only
 clear hk8 k9 HK79 HM1e HM6e HSCe HKe HDe
 go_wp2_with fail
 refine(walk_any F1 _ HSG.out.reads.ok x _ _ _ _ _ _ _ [] ⟨2,1,5,9,1⟩ 0 9 _ (HSG.out.toldHead ⟨2,0,5,9,1⟩ false rfl rfl (.inr (by decide))) (by simp) (by simp) HSCf.out (HDf.out.dsk 24) (fun y hy=>HDf.out.lt y (by simp [hy])) (fun hm=>HX.out.1 (by simp [hm])) (by have:=HN.out;omega) (by omega)).mono ?_
 rintro e w10 ⟨A1,ca1,xs1,rfl,hc1,hv1,hf1,hsc1,_,hk10⟩
 have HM1g:=hide (hk10.blk HM1f.out (by have:=HX.out;simp;omega))
 have HM6g:=hide (hk10.blk HM6f.out (by have:=HX.out;simp;omega))
 have HM8g:=hide (hk10.blk HM8.out (by have:=HB8.out;simp;omega))
 have HSCg:=hide hsc1
 have HKg:=hide (HKf.out.trans hk10 (fun i hi=>by simp at hi;subst hi;have h1:=HX.out;exact .inr (by have:=HFX.out;omega)))
 have HDg:=hide (HDf.out.kept hk10 (fun y hy hm=>HX.out.1 (by simp at hm;subst hm;simp [hy])) (fun y hy hm=>HX.out.1 (by simp at hm;subst hm;simp [hy])))
 have HB8g:=hide (show b8<w10.heap.size from HM8g.out.lt)
 clear hsc1 hk10 hv1 hf1 hc1 HM1f HM6f HM8 HSCf HKf HDf
 obtain⟨p0,p1,p2,p3,p4⟩:=cell5 HM6g.out
 obtain⟨b10,hb10⟩:∃ b10,w10.heap.size=b10:=⟨_,rfl⟩
 obtain⟨w11,hw11⟩:∃ w11,w10.alloc (.cells #[.int .i64 2,.int .i64 1,.int .i64 5,.int .i64 9,.int .i64 1] 24)=w11:=⟨_,rfl⟩
 have k11:Kept [] w10 w11:=by rw[←hw11];exact(Kept.refl [] w10).alloc _
 have m10:Blk w11 b10 24 #[.int .i64 2,.int .i64 1,.int .i64 5,.int .i64 9,.int .i64 1]:=by rw[←hw11,←hb10];exact Blk.new w10 _ _
 obtain⟨b12,hb12⟩:∃ b12,w11.heap.size=b12:=⟨_,rfl⟩
 obtain⟨w12,hw12⟩:∃ w12,w11.alloc (.cells #[.int .i64 0,.int .i64 2] 3)=w12:=⟨_,rfl⟩
 obtain⟨b13,hb13⟩:∃ b13,w12.heap.size=b13:=⟨_,rfl⟩
 obtain⟨w13,hw13⟩:∃ w13,w12.alloc (.cells #[.slice (some ⟨b12,0,none⟩) 2 2,.int .i64 0,.int .i64 0,.int .i64 0,.int .i64 0] 117)=w13:=⟨_,rfl⟩
 have k12:Kept [] w11 w12:=by rw[←hw12];exact(Kept.refl [] w11).alloc _
 have k13:Kept [] w12 w13:=by rw[←hw13];exact(Kept.refl [] w12).alloc _
 have m12:Blk w12 b12 3 #[.int .i64 0,.int .i64 2]:=by rw[←hw12,←hb12];exact Blk.new w11 _ _
 have m13:Blk w13 b13 117 #[.slice (some ⟨b12,0,none⟩) 2 2,.int .i64 0,.int .i64 0,.int .i64 0,.int .i64 0]:=by rw[←hw13,←hb13];exact Blk.new w12 _ _
 have k03:=(k11.trans k12 (by simp)).trans k13 (by simp)
 have hf13:∀ y∈F1++G1,y<b12:=fun y hy=>by have h1:=HB8.out.2.2.2 y hy;have h2:=HB8g.out;have h3:=k11.size;omega
 have hb1213:b12<b13:=by rw[←hb13];exact m12.lt
 have HV13:Hid (Vals w13 (F1++G1) (some ⟨b13,0,none⟩) [.slice (some ⟨b12,0,none⟩) 2 2,.int .i64 0,.int .i64 0,.int .i64 0,.int .i64 0]):=hide (Vals.blk 0 m13 (fun hm=>by have:=hf13 _ hm;omega) (fun i v hv=>by simpa using hv))
 have HVS13:Hid (KrIn w13 (F1++G1) [⟨[0,2],0,0,0,0⟩] [.slice (some ⟨b12,0,none⟩) 2 2,.int .i64 0,.int .i64 0,.int .i64 0,.int .i64 0]):=hide ⟨some ⟨b12,0,none⟩,2,[],rfl,(Vals.blk 0 m12 (fun hm=>by have:=hf13 _ hm;omega) (fun i v hv=>by simpa [I]using hv)).kept k13 (by simp),rfl⟩
 have HM1h:=hide (k03.blk HM1g.out (by simp))
 have HM6h:=hide (k03.blk HM6g.out (by simp))
 have HM8h:=hide (k03.blk HM8g.out (by simp))
 have HM10h:=hide ((k12.trans k13 (by simp)).blk m10 (by simp))
 have HSCh:=hide (HSCg.out.kept k03 (by simp))
 have HKh:=hide (HKg.out.trans k03 (by simp))
 have HDh:=hide (HDg.out.kept0 k03)
 have HB10:=hide (show b8<b10∧b10<b12∧b10<w13.heap.size from⟨by have:=HB8g.out;omega,by rw[←hb12];exact m10.lt,by have:=HM10h.out.lt;exact this⟩)
 have HM1k:=hide (k11.blk HM1g.out (by simp))
 obtain⟨c0,c1,c2⟩:w11.cell? ⟨b1,0,none⟩=some (.int .i64 2)∧w11.cell? ⟨b1,1,none⟩=some (.int .i64 8)∧w11.cell? ⟨b1,2,none⟩=some (.int .i64 24):=⟨HM1k.out.cell 0,HM1k.out.cell 1,HM1k.out.cell 2⟩
 obtain⟨q0,q1,q2,q3,q4⟩:=cell5 m10
 have f1:=m10.frozen 1
 clear k11 k12 k13 k03 m10 m12 m13 hf13 hb1213 HM1g HM6g HM8g HSCg HKg HDg HM1k
 go_wp2_with fail
 refine(klog_any F1 G1 d rd _ ⟨2,1,5,9,1⟩ 2 8 24 r q a (some ⟨b13,0,none⟩) 1 1 [⟨[0,2],0,0,0,0⟩] _ _ HDh.out HSG.out.reads HRF.out (by decide) HAA.out (by rw[HDN.out];exact HN.out.1) (by rw[HDA.out];omega) ⟨by decide,by decide,by decide,by decide⟩ rfl (by omega) (by simp) HV13.out HVS13.out).mono ?_
 rintro e w14 ⟨rfl,F2,G2,hd2,hs2,hk2⟩
 obtain⟨R,hR,⟨hok,hle⟩,hpl,hsg2,hn2,ha2⟩:=HSG.out.log [0,2] 0 (by decide) (by decide) (by decide) (by decide) (by decide)
 rw[hpl]
 obtain⟨D2,hD2⟩:∃ D2,(logD D1 a 24 ⟨2,1,5,9,1⟩ [⟨[0,2],0,0,0,0⟩]).1=D2:=⟨_,rfl⟩
 rw[hD2]at hd2 hsg2
 obtain⟨X,hX⟩:∃ X,behind ⟨2,1,5,9,1⟩ R R.sum=X:=⟨_,rfl⟩
 rw[hX]at hsg2 ⊢
 have HSG2:=hide hsg2
 have HD2:=hide hd2
 have HAP2:=hide (show ∀ y,(y=b1∨y=b6∨y=b8∨y=b10∨y=x)→y∉F2++G2 from fun y hy hm=>by
  have h1:=HM1h.out.lt
  have h6:=HM6h.out.lt
  have h8:=HM8h.out.lt
  have h10:=HM10h.out.lt
  have hx:=HSCh.out.lt
  have hb:=HB8.out
  have hb10:=HB10.out
  rcases hs2 y hm with h|h
  ·have h2:=hb.2.2.2 y h
   rcases hy with rfl|rfl|rfl|rfl|rfl
   ·exact HAP1.out _ (.inl rfl) h
   ·exact HAP1.out _ (.inr (.inl rfl)) h
   ·omega
   ·omega
   ·exact HX.out.1 h
  ·omega)
 have HAPF:=hide (show ∀ y,(y=b1∨y=b6∨y=b8∨y=b10∨y=x)→y∉F1++G1 from fun y hy h=>by
  have hb:=HB8.out
  have hb10:=HB10.out
  have h2:=hb.2.2.2 y h
  rcases hy with rfl|rfl|rfl|rfl|rfl
  ·exact HAP1.out _ (.inl rfl) h
  ·exact HAP1.out _ (.inr (.inl rfl)) h
  ·omega
  ·omega
  ·exact HX.out.1 h)
 obtain⟨b11,hb11⟩:∃ b11,w14.heap.size=b11:=⟨_,rfl⟩
 obtain⟨w15,hw15⟩:∃ w15,w14.alloc (.cells #[.int .i64 X.s,.int .i64 X.o,.int .i64 X.l,.int .i64 X.v,.int .i64 X.m] 24)=w15:=⟨_,rfl⟩
 have k15:Kept [] w14 w15:=by rw[←hw15];exact(Kept.refl [] w14).alloc _
 have hk25:=hk2.trans k15 (S':=[]) (by simp)
 have HM6i:=hide (hk25.blk HM6h.out (HAPF.out _ (.inr (.inl rfl))))
 have HM8i:=hide (hk25.blk HM8h.out (HAPF.out _ (.inr (.inr (.inl rfl)))))
 have HM11:Hid (Blk w15 b11 24 #[.int .i64 X.s,.int .i64 X.o,.int .i64 X.l,.int .i64 X.v,.int .i64 X.m]):=hide (by rw[←hw15,←hb11];exact Blk.new w14 _ _)
 have HSCi:=hide (HSCh.out.kept hk25 (HAPF.out _ (.inr (.inr (.inr (.inr rfl))))))
 have HKi:=hide (HKh.out.trans hk25 (fun i hi=> .inr (by have h1:=HFGL.out i hi;exact h1)))
 have HDi:=hide (HD2.out.kept0 k15)
 have HB11:=hide (show x<b11∧b6<b11∧b8<b11 from⟨by have:=HSCh.out.lt;have:=hk2.size;omega,by have:=HM6h.out.lt;have:=hk2.size;omega,by have:=HM8h.out.lt;have:=hk2.size;omega⟩)
 unfold Ps.val
 clear hR hok hle hpl hsg2 hn2 ha2 hD2 hd2 hs2 hk2 k15 hk25 hX HM1h HM6h HM8h HM10h HSCh HKh HDh HSG HV13 HVS13 hw11 hw12 hw13 q0 q1 q2 q3 q4 f1 c0 c1 c2 p0 p1 p2 p3 p4
 go_wp2_with fail
 refine(walk_any F2 D2 HSG2.out.reads.ok x _ _ _ _ _ _ _ ([]++[(⟨2,1,5,9,1⟩,R)]) X 0 9 _ (HSG2.out.toldHead ⟨2,0,5,9,1⟩ false rfl rfl (.inr (by decide))) (by simp) (by simp) HSCi.out (HDi.out.dsk 24) (fun y hy=>HDi.out.lt y (by simp [hy])) (fun hm=>HAP2.out x (.inr (.inr (.inr (.inr rfl)))) (by simp [hm])) (by have:=HN.out;omega) (by omega)).mono ?_
 rintro e w17 ⟨A2,ca2,xs2,rfl,hc2,hv2,hf2,hsc2,_,hk17⟩
 obtain⟨L,m,cc,P,kk,dd,rest,rfl,_,_⟩:=hf2
 obtain⟨ka,rfl,_,hka⟩:=hv2 0 _ rfl
 rw[show ka.add 0=ka by simp [Addr.add]]at hka
 have HSCj:=hide hsc2
 obtain⟨p0,p1,p2,p3,p4⟩:=cell5 (hk17.blk HM6i.out (by have:=HX.out;simp;omega))
 obtain⟨q0,q1,q2,q3,q4⟩:=cell5 (hk17.blk HM8i.out (by have:=HB8.out;simp;omega))
 obtain⟨r0,r1,r2,r3,r4⟩:=cell5 (hk17.blk HM11.out (by have:=HB11.out;simp;omega))
 have HKj:=hide (HKi.out.trans hk17 (fun i hi=>by simp at hi;subst hi;exact .inr HFX.out))
 clear hsc2 hk17 hv2 HM6i HM8i HM11 HSCi HKi HDi
 have heq:=fun W=>eql_pos ⟨2,0,5,9,1⟩ ⟨2,0,5,9,1⟩ W
 have heX:=fun W=>eql_pos X X W
 simp only[decide_true]at heq heX
 go_wp2
 refine wp_region_noPanic ?_
 refine wp_region_held_drew (S:=fun W=>Kept [] w17 W∧(W.cell? ⟨b8,0,none⟩=some (.int .i64 2)∧W.cell? ⟨b8,1,none⟩=some (.int .i64 0)∧W.cell? ⟨b8,2,none⟩=some (.int .i64 5)∧W.cell? ⟨b8,3,none⟩=some (.int .i64 9)∧W.cell? ⟨b8,4,none⟩=some (.int .i64 1))∧(W.cell? ⟨b6,0,none⟩=some (.int .i64 2)∧W.cell? ⟨b6,1,none⟩=some (.int .i64 0)∧W.cell? ⟨b6,2,none⟩=some (.int .i64 5)∧W.cell? ⟨b6,3,none⟩=some (.int .i64 9)∧W.cell? ⟨b6,4,none⟩=some (.int .i64 1))∧(W.cell? ⟨b11,0,none⟩=some (.int .i64 X.s)∧W.cell? ⟨b11,1,none⟩=some (.int .i64 X.o)∧W.cell? ⟨b11,2,none⟩=some (.int .i64 X.l)∧W.cell? ⟨b11,3,none⟩=some (.int .i64 X.v)∧W.cell? ⟨b11,4,none⟩=some (.int .i64 X.m))∧W.cell? ka=some (.int .i64 1)) (by kernel_rfl) (by exact⟨(Kept.refl [] w17).drew,⟨q0,q1,q2,q3,q4⟩,⟨p0,p1,p2,p3,p4⟩,⟨r0,r1,r2,r3,r4⟩,hka⟩) (fun hHeld=> ?_)
 refine tK 0 71 rfl ?_
 try simp only[Act.put,pA,pB,pC]
 refine tK 1 72 rfl ?_
 try simp only[Act.put,pA,pB,pC]
 refine tK 2 73 rfl ?_
 try simp only[Act.put,pA,pB,pC]
 refine tK 3 74 rfl ?_
 try simp only[Act.put,pA,pB,pC]
 refine tK 4 75 rfl ?_
 try simp only[Act.put,pA,pB,pC]
 refine tK 5 76 rfl ?_
 try simp only[Act.put,pA,pB,pC]
 refine tK 6 77 rfl ?_
 try simp only[Act.put,pA,pB,pC]
 refine tK 7 78 rfl ?_
 try simp only[Act.put,pA,pB,pC]
 refine tK 8 79 rfl ?_
 try simp only[Act.put,pA,pB,pC]
 refine tK 9 80 rfl ?_
 try simp only[Act.put,pA,pB,pC]
 refine tK 10 81 rfl ?_
 try simp only[Act.put,pA,pB,pC]
 refine tK 11 82 rfl ?_
 try simp only[Act.put,pA,pB,pC]
 refine tK 12 83 rfl ?_
 try simp only[Act.put,pA,pB,pC]
 refine tK 13 84 rfl ?_
 try simp only[Act.put,pA,pB,pC]
 refine tK 14 85 rfl ?_
 try simp only[Act.put,pA,pB,pC]
 refine tK 15 86 rfl ?_
 try simp only[Act.put,pA,pB,pC]
 refine tK 16 87 rfl ?_
 try simp only[Act.put,pA,pB,pC]
 refine tK 17 88 rfl ?_
 try simp only[Act.put,pA,pB,pC]
 refine tK 18 89 rfl ?_
 try simp only[Act.put,pA,pB,pC]
 refine tK 19 90 rfl ?_
 try simp only[Act.put,pA,pB,pC]
 refine tK 20 91 rfl ?_
 try simp only[Act.put,pA,pB,pC]
 refine tK 21 92 rfl ?_
 try simp only[Act.put,pA,pB,pC]
 refine tK 22 93 rfl ?_
 try simp only[Act.put,pA,pB,pC]
 refine tK 23 94 rfl ?_
 try simp only[Act.put,pA,pB,pC]
 refine tK 24 95 rfl ?_
 try simp only[Act.put,pA,pB,pC]
 refine tK 26 97 rfl ?_
 try simp only[Act.put,pA,pB,pC]
 refine hO 25 (some 96) rfl fun K hK=> ?_
 go_simp
 refine(end_any x _ _ _ _ _ _ _ _ (HSCj.out.kept hHeld.1 (by simp))).mono ?_
 rintro e w18 ⟨rfl,hk18⟩
 unfold Ps.val
 have HX18:=hide (show(fun W=>Kept [] w17 W∧(W.cell? ⟨b8,0,none⟩=some (.int .i64 2)∧W.cell? ⟨b8,1,none⟩=some (.int .i64 0)∧W.cell? ⟨b8,2,none⟩=some (.int .i64 5)∧W.cell? ⟨b8,3,none⟩=some (.int .i64 9)∧W.cell? ⟨b8,4,none⟩=some (.int .i64 1))∧(W.cell? ⟨b6,0,none⟩=some (.int .i64 2)∧W.cell? ⟨b6,1,none⟩=some (.int .i64 0)∧W.cell? ⟨b6,2,none⟩=some (.int .i64 5)∧W.cell? ⟨b6,3,none⟩=some (.int .i64 9)∧W.cell? ⟨b6,4,none⟩=some (.int .i64 1))∧(W.cell? ⟨b11,0,none⟩=some (.int .i64 X.s)∧W.cell? ⟨b11,1,none⟩=some (.int .i64 X.o)∧W.cell? ⟨b11,2,none⟩=some (.int .i64 X.l)∧W.cell? ⟨b11,3,none⟩=some (.int .i64 X.v)∧W.cell? ⟨b11,4,none⟩=some (.int .i64 X.m))∧W.cell? ka=some (.int .i64 1)) w18 from⟨hHeld.1.trans hk18 (by simp),awk5 hHeld.2.1 hk18,awk5 hHeld.2.2.1 hk18,awk5 hHeld.2.2.2.1 hk18,hk18.cell hHeld.2.2.2.2 (by simp)⟩)
 refine hK.out _ _ (by exact HX18.out) (fun hHeld=> ?_)
 clear hK K
 try simp only[Act.put,pA,pB,pC]
 refine tK 27 98 rfl ?_
 try simp only[Act.put,pA,pB,pC]
 refine tK 28 99 rfl ?_
 try simp only[Act.put,pA,pB,pC]
 refine tK 29 100 rfl ?_
 try simp only[Act.put,pA,pB,pC]
 refine tK 30 101 rfl ?_
 try simp only[Act.put,pA,pB,pC]
 refine hO 31 (some 102) rfl fun K hK=> ?_
 go_simp
 refine(err_any x _ _ _ _ _ _ _ _ (HSCj.out.kept hHeld.1 (by simp))).mono ?_
 rintro e w19 ⟨rfl,rfl⟩
 refine hK.out _ _ (by exact hHeld) (fun hHeld=> ?_)
 clear hK K
 try simp only[Act.put,pA,pB,pC]
 refine tK 32 103 rfl ?_
 try simp only[Act.put,pA,pB,pC]
 refine tK 33 104 rfl ?_
 try simp only[Act.put,pA,pB,pC]
 refine tK 34 105 rfl ?_
 try simp only[Act.put,pA,pB,pC]
 refine tK 35 106 rfl ?_
 try simp only[Act.put,pA,pB,pC]
 refine hO 36 (some 107) rfl fun K hK=> ?_
 go_simp
 refine(err_nil _).mono ?_
 rintro e w20 ⟨rfl,rfl⟩
 refine hK.out _ _ (by exact hHeld) (fun hHeld=> ?_)
 clear hK K
 try simp only[Act.put,pA,pB,pC]
 refine tK 37 108 rfl ?_
 try simp only[Act.put,pA,pB,pC]
 refine tK 38 109 rfl ?_
 try simp only[Act.put,pA,pB,pC]
 refine tK 39 110 rfl ?_
 try simp only[Act.put,pA,pB,pC]
 refine tK 40 111 rfl ?_
 try simp only[Act.put,pA,pB,pC]
 refine hO 41 (some 112) rfl fun K hK=> ?_
 go_simp
 refine(walk_none 2 _).mono ?_
 rintro e w21 ⟨cz,rfl,hk21⟩
 have HX21:=hide (show(fun W=>Kept [] w17 W∧(W.cell? ⟨b8,0,none⟩=some (.int .i64 2)∧W.cell? ⟨b8,1,none⟩=some (.int .i64 0)∧W.cell? ⟨b8,2,none⟩=some (.int .i64 5)∧W.cell? ⟨b8,3,none⟩=some (.int .i64 9)∧W.cell? ⟨b8,4,none⟩=some (.int .i64 1))∧(W.cell? ⟨b6,0,none⟩=some (.int .i64 2)∧W.cell? ⟨b6,1,none⟩=some (.int .i64 0)∧W.cell? ⟨b6,2,none⟩=some (.int .i64 5)∧W.cell? ⟨b6,3,none⟩=some (.int .i64 9)∧W.cell? ⟨b6,4,none⟩=some (.int .i64 1))∧(W.cell? ⟨b11,0,none⟩=some (.int .i64 X.s)∧W.cell? ⟨b11,1,none⟩=some (.int .i64 X.o)∧W.cell? ⟨b11,2,none⟩=some (.int .i64 X.l)∧W.cell? ⟨b11,3,none⟩=some (.int .i64 X.v)∧W.cell? ⟨b11,4,none⟩=some (.int .i64 X.m))∧W.cell? ka=some (.int .i64 1)) w21 from⟨hHeld.1.trans hk21 (by simp),awk5 hHeld.2.1 hk21,awk5 hHeld.2.2.1 hk21,awk5 hHeld.2.2.2.1 hk21,hk21.cell hHeld.2.2.2.2 (by simp)⟩)
 refine hK.out _ _ (by exact HX21.out) (fun hHeld=> ?_)
 clear hK K
 try simp only[Act.put,pA,pB,pC]
 refine tK 42 113 rfl ?_
 try simp only[Act.put,pA,pB,pC]
 refine tK 43 114 rfl ?_
 try simp only[Act.put,pA,pB,pC]
 refine tK 44 115 rfl ?_
 try simp only[Act.put,pA,pB,pC]
 refine tK 45 0 rfl ?_
 try simp only[Act.put,pA,pB,pC]
 refine wpAnyH_done (by kernel_rfl) ?_ _
 refine NoPanic.normal ?_
 go_wp2
 go_ret
 exact⟨rfl,HKj.out.trans hHeld.1 (by simp)⟩
end Go.Proofs.YtjkmahmoclobmaaGreat.sc
namespace Go.Proofs.YtjkmahmoclobmaaGreat.sc
open Go.RowKit mem base disk
open geom (GAt Rf segAt)
structure Lw (wr w:World)(F G:List Nat)(d rd g:Nat)(D:Dk)(b s l r q:Int):Prop where
 dd:Dd wr F d G rd D
 geo:GAt wr g b s l r q
 gap:g∉F++G
 kept:Kept [] w wr
 new:∀ i∈F++G,w.heap.size≤i
section
variable {wr wr' w:World}{F G:List Nat}{d rd g:Nat}{D D':Dk}{b s l r q:Int}
theorem Lw.keep (h:Lw wr w F G d rd g D b s l r q)(k:Kept [] wr wr'):Lw wr' w F G d rd g D b s l r q:=
 ⟨h.dd.kept0 k,h.geo.kept k,h.gap,h.kept.trans k (by simp),h.new⟩
theorem Lw.put (h:Lw wr w F G d rd g D b s l r q)(t:DdTo wr wr' F d G rd D'):∃ F' G',Lw wr' w F' G' d rd g D' b s l r q∧(∀ y,y∉F++G→y<wr.heap.size→y∉F'++G')∧Kept (F++G) wr wr':=by
 obtain⟨F',G',h1,h2,h3⟩:=t
 have hap:∀ y,y∉F++G→y<wr.heap.size→y∉F'++G':=fun y hy hl hm=>(h2 y hm).elim hy (fun h=>by omega)
 exact⟨F',G',⟨h1,h.geo.kept h3 h.gap,hap g h.gap h.geo.lt,h.kept.trans h3 (fun i hi=> .inr (h.new i hi)),fun i hi=>(h2 i hi).elim (h.new i) (fun hh=>by have:=h.kept.size;omega)⟩,hap,h3⟩
theorem Lw.of_desk {w0:World}{n:Nat}(hk:Kept [] w w0)(h:Desk w0 wr F d G rd g n b s l r q):Lw wr w F G d rd g (Dk.new n) b s l r q:=
 ⟨h.dd,h.geo,fun hm=>by have:=h.new g hm;omega,hk.trans h.kept (by simp),fun i hi=>by have h1:=h.new i hi;have h2:=h.old;have h3:=hk.size;omega⟩
end
end Go.Proofs.YtjkmahmoclobmaaGreat.sc
