import Derived.Test.YtjkmahmoclobmaaGreatYScanCore
import Derived.Test.YtjkmahmoclobmaaGreatYItemSmall
import Derived.Test.YtjkmahmoclobmaaGreatYOrders
import Derived.Test.YtjkmahmoclobmaaGreatYRecordCore
import Derived.Test.YtjkmahmoclobmaaGreatYOwns
import Derived.Test.YtjkmahmoclobmaaGreatYFar
import Derived.Test.YtjkmahmoclobmaaGreatYScanNextCore
import Derived.Test.YtjkmahmoclobmaaGreatYHeld
import Derived.Test.YtjkmahmoclobmaaGreatYRDiskCore
import Derived.Test.YtjkmahmoclobmaaGreatYScanRef
import Derived.Test.YtjkmahmoclobmaaGreatYHeadRefs
import Derived.Test.YtjkmahmoclobmaaGreatYRecordRef
import Derived.Deep.CutRange
set_option linter.unusedSimpArgs false
set_option maxRecDepth 100000
set_option maxHeartbeats 8000000
namespace Go.Proofs.YtjkmahmoclobmaaGreat.sc
open Go.RowKit mem base disk item
open record (Rc all64 count count_snoc)
def kitBlk (x:Nat):List UInt8:=(List.range 64).map fun i=>UInt8.ofNat ((x+3*i)%256)
theorem kitBlk_len (x:Nat):(kitBlk x).length=64:=by simp [kitBlk]
def kitItem (r:Int)(b:Nat):It:=
 if r=0 then⟨1,((b%8:Nat):Int),0,0⟩else if r=1 then⟨2,((b%8:Nat):Int),1+((b%3:Nat):Int),0⟩else if r=2 then⟨3,0,0,1+(b:Int)⟩
 else if r=3 then⟨4,((b%8:Nat):Int),0,20+(b:Int)⟩else if r=4 then⟨5,((b%8:Nat):Int),0,0⟩else⟨6,((b%8:Nat):Int),1+((b%3:Nat):Int),0⟩
def kitBlocks (r:Int)(b:Nat):List (List UInt8):=if r=0∨r=3∨r=4 then [kitBlk b]else []
def kitIts (ks:List Int)(f n:Nat):List It:=(List.range n).map fun i=>kitItem (ks.getD i 0%6) (f+i)
def kitBks (ks:List Int)(f n:Nat):List (List UInt8):=(List.range n).flatMap fun i=>kitBlocks (ks.getD i 0%6) (f+i)
theorem kitIts_succ (ks:List Int)(f n:Nat)(k:Int)(h:ks[n]? = some k):kitIts ks f (n+1)=kitIts ks f n++[kitItem (k%6) (f+n)]:=by
 unfold kitIts;rw[List.range_succ,List.map_append,List.map_singleton,List.getD_eq_getElem?_getD,h]
 rfl
theorem kitBks_succ (ks:List Int)(f n:Nat)(k:Int)(h:ks[n]? = some k):kitBks ks f (n+1)=kitBks ks f n++kitBlocks (k%6) (f+n):=by
 unfold kitBks;rw[List.range_succ,List.flatMap_append,List.flatMap_singleton,List.getD_eq_getElem?_getD,h]
 rfl
theorem kitIts_len (ks:List Int)(f n:Nat):(kitIts ks f n).length=n:=by simp [kitIts]
theorem six (k:Int):k%6=0∨k%6=1∨k%6=2∨k%6=3∨k%6=4∨k%6=5:=by omega
theorem kitItem_may (k:Int)(b:Nat)(hb:b≤1005):(kitItem (k%6) b).may=true:=by
 have h8:b%8<8:=Nat.mod_lt _ (by omega);have h3:b%3<3:=Nat.mod_lt _ (by omega)
 rcases six k with h|h|h|h|h|h<;>rw[h]<;>exact(may_iff4 _ _ _ _).2 (by omega)
theorem kitItem_next (k:Int)(b:Nat):(kitItem (k%6) b).k≠7:=by
 rcases six k with h|h|h|h|h|h<;>rw[h]<;>simp [kitItem]
theorem kitItem_loaded (k:Int)(b:Nat)(hb:b≤1005):(if (kitItem (k%6) b).loaded=true then 1 else 0)=(kitBlocks (k%6) b).length:=by
 have hm:=kitItem_may k b hb;unfold It.loaded;rw[hm,Bool.true_and]
 rcases six k with h|h|h|h|h|h<;>rw[h]<;>simp [kitItem,kitBlocks]
theorem kitBlocks_64 (r:Int)(b:Nat):all64 (kitBlocks r b):=by
 intro x hx;unfold kitBlocks at hx
 split at hx
 ·simp only[List.mem_cons,List.not_mem_nil,or_false]at hx;rw[hx];exact kitBlk_len _
 ·cases hx
theorem kitBks_64 (ks:List Int)(f n:Nat):all64 (kitBks ks f n):=by
 intro x hx;obtain⟨i,_,hb⟩:=List.mem_flatMap.1 hx;exact kitBlocks_64 _ _ x hb
theorem kit_count (ks:List Int)(f n:Nat)(hf:f<1000)(hn:n≤6):count (kitIts ks f n)=(kitBks ks f n).length:=by
 induction n with
 | zero=>rfl
 | succ n ih=>
  have e1:kitIts ks f (n+1)=kitIts ks f n++[kitItem (ks.getD n 0%6) (f+n)]:=by unfold kitIts;rw[List.range_succ,List.map_append,List.map_singleton]
  have e2:kitBks ks f (n+1)=kitBks ks f n++kitBlocks (ks.getD n 0%6) (f+n):=by unfold kitBks;rw[List.range_succ,List.flatMap_append,List.flatMap_singleton]
  rw[e1,e2,count_snoc,ih (by omega),kitItem_loaded _ _ (by omega),List.length_append]
theorem kitBks_le (ks:List Int)(f n:Nat):(kitBks ks f n).length≤n:=by
 induction n with
 | zero=>exact Nat.le_refl _
 | succ n ih=>
  have e2:kitBks ks f (n+1)=kitBks ks f n++kitBlocks (ks.getD n 0%6) (f+n):=by unfold kitBks;rw[List.range_succ,List.flatMap_append,List.flatMap_singleton]
  rw[e2,List.length_append]
  have:(kitBlocks (ks.getD n 0%6) (f+n)).length≤1:=by unfold kitBlocks;split<;>simp
  omega
def kitAll (ks:List Int)(f:Nat):List It:=if ks.length=0 then [⟨3,0,0,1⟩]else kitIts ks f ks.length
structure Kr where
 ks:List Int
 (fill skew twist up:Int)
def kmade (p:Ps)(r:Kr):Rc:=⟨max (p.m+(r.up+3)%7-3) 1,max (p.l+(r.skew+2)%5-2) 1,(p.v+r.twist%3)%4294967296,kitAll r.ks (r.fill%1000).toNat,kitBks r.ks (r.fill%1000).toNat r.ks.length⟩
theorem kmade_ok (p:Ps)(r:Kr)(hm:0≤p.m∧p.m≤2000000)(hl:0≤p.l∧p.l≤2000000)(h6:r.ks.length≤6):(kmade p r).ok:=by
 have hf1:=Int.emod_nonneg r.fill (show(1000:Int)≠0 by omega);have hf2:=Int.emod_lt_of_pos r.fill (show(0:Int)<1000 by omega)
 have hf:(r.fill%1000).toNat<1000:=by omega
 have a1:=Int.emod_nonneg (r.up+3) (show(7:Int)≠0 by omega);have a2:=Int.emod_lt_of_pos (r.up+3) (show(0:Int)<7 by omega);have b1:=Int.emod_nonneg (r.skew+2) (show(5:Int)≠0 by omega);have b2:=Int.emod_lt_of_pos (r.skew+2) (show(0:Int)<5 by omega);have c1:=Int.emod_nonneg (p.v+r.twist%3) (show(4294967296:Int)≠0 by omega);have c2:=Int.emod_lt_of_pos (p.v+r.twist%3) (show(0:Int)<4294967296 by omega);refine⟨⟨?_,?_⟩,⟨?_,?_⟩,⟨?_,?_⟩,⟨?_,?_⟩,?_,?_,kitBks_64 _ _ _⟩
 ·dsimp only[kmade];omega
 ·dsimp only[kmade];omega
 ·dsimp only[kmade];omega
 ·dsimp only[kmade];omega
 ·dsimp only[kmade];omega
 ·dsimp only[kmade];omega
 ·dsimp only[kmade,kitAll]
  split
  ·simp
  ·rw[kitIts_len];omega
 ·dsimp only[kmade,kitAll]
  split
  ·simp
  ·rw[kitIts_len];omega
 ·dsimp only[kmade,kitAll]
  split
  ·intro i hi;simp only[List.mem_cons,List.not_mem_nil,or_false]at hi;rw[hi];decide
  ·intro x hx;obtain⟨i,hi,rfl⟩:=List.mem_map.1 hx;exact kitItem_may _ _ (by have:=List.mem_range.1 hi;omega)
 ·dsimp only[kmade,kitAll]
  split
  ·rename_i h0
   rw[h0];show count ([⟨3,0,0,1⟩]:List It)=0
   decide
  ·exact kit_count _ _ _ hf h6
theorem kmade_next (p:Ps)(r:Kr):hasNext (kmade p r)=false:=by
 unfold hasNext;rw[List.any_eq_false];intro i hi;dsimp only[kmade,kitAll]at hi
 split at hi
 ·simp only[List.mem_cons,List.not_mem_nil,or_false]at hi;rw[hi];decide
 ·obtain⟨j,hj,rfl⟩:=List.mem_map.1 hi
  have:=kitItem_next (r.ks.getD j 0) ((r.fill%1000).toNat+j)
  simpa using this
theorem kmade_len (p:Ps)(r:Kr):(kmade p r).bks.length≤r.ks.length:=kitBks_le _ _ _
end Go.Proofs.YtjkmahmoclobmaaGreat.sc
namespace Go.Proofs.YtjkmahmoclobmaaGreat.sc
open Go.RowKit mem base disk owns
open item (It Items Own valsOf rloaded_any oneCell_It)
open crc (PartsIn)
theorem and255 (n:Int):bits .and .i64 n 255=n%256:=by
 have h1:(BitVec.ofInt 64 255).toNat=2^8-1:=by decide
 have key:(BitVec.ofInt 64 n&&&BitVec.ofInt 64 255).toNat=(n%((2^64:Nat):Int)).toNat%2^8:=by
  rw[BitVec.toNat_and,BitVec.toNat_ofInt,h1,Nat.and_two_pow_sub_one_eq_mod]
 show IntKind.i64.wrap ((BitVec.ofInt 64 n&&&BitVec.ofInt 64 255).toNat:Nat)=n%256;rw[key,IntKind.wrap_i64]
 omega
theorem vals_new1 (w:World)(o:Obj)(t:TypeId)(vs:List Value):Vals ((w.alloc o).alloc (.cells vs.toArray t)) [] (some ⟨w.heap.size+1,0,none⟩) vs:=by
 have:=Vals.new (w.alloc o) [] t vs (by simp)
 rwa [World.size_alloc]at this
def kitK (x:Nat)(k:Nat):List UInt8:=(kitBlk x).take k++List.replicate (64-k) 0
theorem kitBlk_get (x k:Nat)(h:k<64):(kitBlk x)[k]? = some (UInt8.ofNat ((x+3*k)%256)):=by simp [kitBlk,h]
theorem kitK_succ (x:Nat)(k:Nat)(h:k<64):(kitK x k).set k (UInt8.ofNat ((x+3*k)%256))=kitK x (k+1):=by
 have h1:((kitBlk x).take k).length=k:=by rw[List.length_take,kitBlk_len];omega
 unfold kitK;rw[List.set_append,h1,if_neg (by omega),Nat.sub_self,show 64-k=(64-(k+1))+1 by omega,List.replicate_succ,List.set_cons_zero,List.take_add_one,kitBlk_get x k h]
 simp

theorem bytes_any (x:Nat)(hx:x≤2000)(w:World):
  Calls Tryz.prog 181 #[.int .i64 x] w fun e w'=>∃ g,e= .returned (.slice (some ⟨g,0,none⟩) 64 64)∧w.heap.size≤g∧Arr w' g 64 (kitBlk x)∧Kept [] w w':=by
 have hmk:∀ w:World,(Instr.makeSlice 41 (.int .i64 64) (.int .i64 64)).run Tryz.prog w= .ok (.slice (some ⟨w.heap.size,0,none⟩) 64 64) (w.alloc (.cells (madeCells #[.int .u8 0] 64) 5)):=
  run_make_row' (P:=Tryz.prog) 41 5 (.int .u8 0) 1 (by kernel_rfl) (by kernel_rfl) rfl .i64 .i64 64 (by omega) (by omega)
 have hmade:Hid (Arr (w.alloc (.cells (madeCells #[.int .u8 0] 64) 5)) w.heap.size 64 (kitK x 0)):=hide ⟨_,Blk.new _ _ _,by rw[size_madeCells],by simp [kitK],fun k y hy=>by
  simp only[kitK,List.take_zero,List.nil_append,List.getElem?_replicate]at hy
  split at hy
  ·rename_i hk
   injection hy with hy;subst hy;exact base.made_B 64 k hk
  ·cases hy⟩
 have hk0:Hid (Kept [] w (w.alloc (.cells (madeCells #[.int .u8 0] 64) 5))):=hide ((Kept.refl [] w).alloc _);generalize hZ:madeCells #[Value.int .u8 0] 64=Z at*;clear hZ;go_enter Tryz.func181,Tryz.ntmps181;go_wp2
 go_loopw [4] (fun i wr=>∃ k:Nat,k≤64∧i= .int .i64 k∧Hid (Arr wr w.heap.size 64 (kitK x k))∧Hid (Kept [] w wr)) (fun i wr=>64-(intOf i).toNat)
 case atStart=>exact⟨0,by omega,rfl,hmade,hk0⟩
 case round=>
  obtain⟨k,hk,rfl,HA,HK⟩:=hrel
  by_cases hlt:k<64
  ·obtain⟨v0,hv0⟩:=HA.out.any (i:=k) hlt;have hvf:=HA.out.frozen k;obtain⟨r,hr⟩:∃ r:Int,((x:Int)+3*(k:Int))%256=r:=⟨_,rfl⟩
   have ha:bits .and .i64 ((x:Int)+3*(k:Int)) 255=r:=by rw[and255];exact hr
   have hw:IntKind.u8.wrap r=r:=IntWalk.u8_in _ (by omega)
   have HB:Hid (Value.int .u8 r=B (UInt8.ofNat ((x+3*k)%256))):=hide (by
    simp only[B,UInt8.toNat_ofNat']
    congr 1
    omega)
   clear hr;go_wp2;go_roundw
   case rel=>
    rw[HB.out];refine⟨k+1,by omega,by go_num,hide ?_,hide (HK.out.set_ (.inr (Nat.le_refl _)) _ _)⟩;rw[←kitK_succ x k hlt];exact HA.out.set_ _
   case measure=>simp [intOf];omega
  ·obtain rfl:k=64:=by omega
   have HA2:Hid (Arr wr w.heap.size 64 (kitBlk x)):=hide (by
    have:=HA.out
    unfold kitK at this;rw[List.take_of_length_le (by rw[kitBlk_len];exact Nat.le_refl _)]at this
    simpa using this)
   go_wp2;go_ret;exact⟨_,rfl,Nat.le_refl _,HA2.out,HK.out⟩
structure KS (wr w:World)(Bz:Nat)(its:List It)(bks:List (List UInt8))(v u:Value)(vs:List Value):Prop where
 items:Own wr Bz v its
 blocks:wr.ownsRow Bz 41 1 u bks.length vs
 parts:PartsIn wr (u.ownBlock.toList++v.ownBlock.toList) vs bks
 new:∀ Q:List Nat,(∀ x∈Q,x<Bz)→PartsIn wr (Q++(u.ownBlock.toList++v.ownBlock.toList)) vs bks
 kept:Kept [] w wr
 size:Bz≤wr.heap.size

section
variable {wr w w9 w10:World}{Bz:Nat}{its:List It}{bks:List (List UInt8)}{v u v1:Value}{vs:List Value}
theorem KS.item (h:KS wr w Bz its bks v u vs)(hw:w.heap.size≤Bz)(k9:Kept [] wr w9)(i:It)(hown:w10.ownsRow Bz 84 4 v1 (its.length+1) (valsOf its++i.vals))(hk:Kept v.ownBlock.toList w9 w10)
  (hat:v1.ownBlock=v.ownBlock∨v1.ownBlock=some w9.heap.size):KS w10 w Bz (its++[i]) bks v1 u vs:=by
 have hv:=own_blk (show wr.ownsRow Bz 84 4 v its.length (valsOf its)from h.items);have hu:=own_blk h.blocks;have hap:=own_apart (show wr.ownsRow Bz 84 4 v its.length (valsOf its)from h.items) h.blocks (by decide);have hs9:=k9.size;have hs10:=hk.size
 have hnew:∀ Q:List Nat,(∀ x∈Q,x<Bz)→PartsIn w10 (Q++(u.ownBlock.toList++v1.ownBlock.toList)) vs bks:=fun Q hQ=>by
  have h1:PartsIn w9 (w9.heap.size::(Q++(u.ownBlock.toList++v.ownBlock.toList))) vs bks:=(((h.new Q hQ).away (fun i hi=>by
   rcases List.mem_cons.1 hi with rfl|hi
   ·exact .inr hs9
   ·exact .inl hi)).kept k9 (by simp))
  refine((h1.kept hk (fun i hi=>by simp [hi]))).less (fun i hi=> ?_)
  rcases List.mem_append.1 hi with hi|hi
  ·simp [hi]
  rcases List.mem_append.1 hi with hi|hi
  ·simp [hi]
  ·rcases hat with ha|ha
   ·rw[ha]at hi
    simp [hi]
   ·rw[ha]at hi;simp at hi
    simp [hi]
 refine⟨Own.snoc hown,own_keep (own_keep h.blocks k9 (by simp)) hk hap,hnew [] (by simp),hnew,?_,by have:=h.size;omega⟩
 exact(h.kept.trans k9 (by simp)).trans hk (fun i hi=> .inr (by have:=(hv i hi).1;omega))
theorem KS.block (h:KS wr w Bz its bks v u vs)(hw:w.heap.size≤Bz){w8:World}(k8:Kept [] wr w8)(k9:Kept [] w8 w9){gp:Nat}{blk:List UInt8}(ha:Arr w8 gp 64 blk)(hl:blk.length=64)(hgp:wr.heap.size≤gp)
  (hown:w10.ownsRow Bz 41 1 v1 (bks.length+1) (vs++[.slice (some ⟨gp,0,none⟩) 64 64])) (hk:Kept u.ownBlock.toList w9 w10)
  (hat:v1.ownBlock=u.ownBlock∨v1.ownBlock=some w9.heap.size):KS w10 w Bz its (bks++[blk]) v v1 (vs++[.slice (some ⟨gp,0,none⟩) 64 64]):=by
 have hv:=own_blk (show wr.ownsRow Bz 84 4 v its.length (valsOf its)from h.items);have hu:=own_blk h.blocks;have hap:=own_apart h.blocks (show wr.ownsRow Bz 84 4 v its.length (valsOf its)from h.items) (by decide);have hs8:=k8.size;have hs9:=k9.size;have hs10:=hk.size;have hgl:=ha.lt;have hz:=h.size;have k89:=k8.trans k9 (by simp)
 have hnew:∀ Q:List Nat,(∀ x∈Q,x<Bz)→PartsIn w10 (Q++(v1.ownBlock.toList++v.ownBlock.toList)) (vs++[.slice (some ⟨gp,0,none⟩) 64 64]) (bks++[blk]):=fun Q hQ=>by
  have h1:PartsIn w9 (w9.heap.size::(Q++(u.ownBlock.toList++v.ownBlock.toList))) vs bks:=(((h.new Q hQ).away (fun i hi=>by
   rcases List.mem_cons.1 hi with rfl|hi
   ·exact .inr (by omega)
   ·exact .inl hi)).kept k89 (by simp))
  have h2:Vals w9 (w9.heap.size::(Q++(u.ownBlock.toList++v.ownBlock.toList))) (some ⟨gp,0,none⟩) (blk.map B):=(ha.kept k9 (by simp)).vals (fun hm=>by
   rcases List.mem_cons.1 hm with hm|hm
   ·omega
   rcases List.mem_append.1 hm with hm|hm
   ·have:=hQ gp hm;omega
   rcases List.mem_append.1 hm with hm|hm
   ·have:=(hu gp hm).2.1;omega
   ·have:=(hv gp hm).2.1;omega)
  refine(((h1.snoc (some ⟨gp,0,none⟩) 64 64 blk hl (by omega) h2).kept hk (fun i hi=>by simp [hi]))).less (fun i hi=> ?_)
  rcases List.mem_append.1 hi with hi|hi
  ·simp [hi]
  rcases List.mem_append.1 hi with hi|hi
  ·rcases hat with ha|ha
   ·rw[ha]at hi
    simp [hi]
   ·rw[ha]at hi;simp at hi
    simp [hi]
  ·simp [hi]
 refine⟨own_keep (own_keep (show wr.ownsRow Bz 84 4 v its.length (valsOf its)from h.items) k89 (by simp)) hk hap,?_,hnew [] (by simp),hnew,?_,by omega⟩
 ·rw[List.length_append];exact hown
 ·exact(h.kept.trans k89 (by simp)).trans hk (fun i hi=> .inr (by have:=(hu i hi).1;omega))
end
theorem KS.keep {wr w w':World}{Bz:Nat}{its:List It}{bks:List (List UInt8)}{v u:Value}{vs:List Value}(h:KS wr w Bz its bks v u vs)(k:Kept [] wr w'):KS w' w Bz its bks v u vs:=
 ⟨own_keep h.items k (by simp),own_keep h.blocks k (by simp),h.parts.kept k (by simp),fun Q hQ=>(h.new Q hQ).kept k (by simp),h.kept.trans k (by simp),Nat.le_trans h.size k.size⟩
theorem KS.nil (w:World):KS w w w.heap.size [] [] (.slice none 0 0) (.slice none 0 0) []:=⟨Own.nil _ _,World.ownsRow_nil _ _ _ _,PartsIn.nil _ _,fun _ _=>PartsIn.nil _ _,Kept.refl _ _,Nat.le_refl _⟩
theorem own_form {w:World}{base:Nat}{e:TypeId}{sz:Nat}{v:Value}{n:Nat}{xs:List Value}(h:w.ownsRow base e sz v n xs):∃ A c,v= .slice A n c:=by
 rcases h.2 with⟨rfl,h0⟩|⟨g,cap,cur,rfl,_⟩
 ·exact⟨none,0,by rw[h0]⟩
 ·exact⟨_,_,rfl⟩
def ItemsOut (w w':World)(e:Ending)(its:List It)(bks:List (List UInt8)):Prop:=
 ∃ L lc P pc,e= .returned (.tuple #[.slice L its.length lc,.slice P bks.length pc])∧(∀ Q:List Nat,(∀ x∈Q,x<w.heap.size)→Items w' Q L its∧∃ vs,PartsIn w' Q vs bks∧Vals w' Q P vs)∧Kept [] w w'
theorem KS.outs {wr w:World}{its:List It}{bks:List (List UInt8)}{v u:Value}{vs:List Value}(h:KS wr w w.heap.size its bks v u vs)(e:Ending)(he:e= .returned (.tuple #[v,u])):ItemsOut w wr e its bks:=by
 obtain⟨L,lc,hv,hc,_,hi,_⟩:=h.items.slice;obtain⟨P,pc,hu,hpc,hp⟩:=own_read h.blocks;subst hv hu;refine⟨L,lc,P,pc,he,fun Q hQ=>⟨hi Q (fun i hi=> .inl (hQ i hi)),vs,(h.new Q hQ).less (fun i hi=>List.mem_append_left _ hi),hp Q (fun i hi=> .inl (hQ i hi))⟩,h.kept⟩

theorem items_any (K:Option Addr)(n c:Nat)(ks:List Int)(fill:Int)(w:World)(hv:Vals w [] K (ks.map I))(hl:ks.length=n)(hn:n≤6):
  Calls Tryz.prog 133 #[.slice K n c,.int .i64 fill] w fun e w'=>ItemsOut w w' e (kitAll ks (fill%1000).toNat) (kitBks ks (fill%1000).toNat n):=by
 have HV:=hide hv;have HL:=hide hl;have hf1:=Int.emod_nonneg fill (show(1000:Int)≠0 by omega);have hf2:=Int.emod_lt_of_pos fill (show(0:Int)<1000 by omega);obtain⟨f,hf⟩:∃ f:Nat,fill%1000=(f:Int):=⟨(fill%1000).toNat,by omega⟩;have hm1:=mod_any fill 1000;simp only[hf]at hm1 hf1 hf2 ⊢;have HM1:=hide hm1
 have hf3:f<1000:=by omega
 rw[show((f:Int)).toNat=f by omega];have HKS:Hid (KS w w w.heap.size (kitIts ks f 0) (kitBks ks f 0) (.slice none 0 0) (.slice none 0 0) []):=hide (KS.nil w);clear hv hl hm1 hf hf1 hf2;go_enter Tryz.func133,Tryz.ntmps133;go_wp2
 go_loopw [6,7,8] (fun v u i wr=>∃ (j:Nat) (vs:List Value),j≤n∧i= .int .i64 (j:Int)∧Hid (KS wr w w.heap.size (kitIts ks f j) (kitBks ks f j) v u vs)) (fun v u i wr=>n-(intOf i).toNat)
 case atStart=>exact⟨0,[],by omega,rfl,HKS⟩
 case round=>
  obtain⟨j,vs,hj,rfl,HM⟩:=hrel;clear HKS
  by_cases hlt:j<n
  ·obtain⟨z,hz⟩:∃ z,ks[j]? = some z:=⟨_,List.getElem?_eq_getElem (by rw[HL.out];exact hlt)⟩;obtain⟨ad,rfl,_,hc⟩:=(HV.out.kept HM.out.kept (by simp)) j (I z) (by rw[List.getElem?_map,hz];rfl);unfold I at hc;have HIS:=hide (kitIts_succ ks f j z hz);have HBS:=hide (kitBks_succ ks f j z hz);have hlk:=kitIts_len ks f j;obtain⟨L2,cc2,hv2⟩:=own_form (show wr.ownsRow w.heap.size 84 4 _ (kitIts ks f j).length (valsOf (kitIts ks f j))from HM.out.items);rw[hlk]at hv2;subst hv2;obtain⟨bq,hbq⟩:∃ bq,(kitBks ks f j).length=bq:=⟨_,rfl⟩;obtain⟨P2,pc2,hu2⟩:=own_form HM.out.blocks;rw[hbq]at hu2;subst hu2;have hown:=HM.out.items;unfold Own at hown;rw[hlk]at hown;have HOW:=hide hown;have HLK:=hide hlk;have hbl:=kitBks_le ks f j;have hsz:=HM.out.size;obtain⟨X,hX⟩:∃ X:Nat,f+j=X:=⟨_,rfl⟩
   have hXI:(f:Int)+(j:Int)=(X:Int):=by omega
   have hX2:X≤1005:=by omega
   obtain⟨m8,hm8⟩:∃ m8:Nat,X%8=m8:=⟨_,rfl⟩;obtain⟨m3,hm3⟩:∃ m3:Nat,X%3=m3:=⟨_,rfl⟩
   have e8:((X:Int)).tmod 8=(m8:Int):=by rw[Int.tmod_eq_emod_of_nonneg (by omega)];omega
   have e3:((X:Int)).tmod 3=(m3:Int):=by rw[Int.tmod_eq_emod_of_nonneg (by omega)];omega
   have hm8b:m8<8:=by omega
   have hm3b:m3<3:=by omega
   rw[hX]at HIS HBS;have HM8:=hide hm8;have HM3:=hide hm3;clear hz hlk hown hX hm8 hm3;have HBQ:=hide hbq;rw[hbq]at hbl;clear hbq;go_wp2_with fail;refine(mod_any z 6 _ (by omega) (by omega)).mono ?_;rintro e w3 ⟨rfl,rfl⟩
   rcases six z with h6|h6|h6|h6|h6|h6
   ·rw[h6];rw[h6]at HIS HBS;clear h6;go_wp2_with fail;refine(HM1.out _ (by omega) (by omega)).mono ?_;rintro e w3 ⟨rfl,rfl⟩;have HI2:Hid (kitIts ks f (j+1)=kitIts ks f j++[(⟨1,(m8:Int),0,0⟩:It)]):=hide (by rw[HIS.out];simp only[kitItem,HM8.out,HM3.out,reduceIte]<;>rfl);have HB2:Hid (kitBks ks f (j+1)=kitBks ks f j++[kitBlk X]):=hide (by rw[HBS.out];simp [kitBlocks])
    have hld:It.loaded (⟨1,(m8:Int),0,0⟩:It)=true:=by unfold It.loaded;rw[(item.may_iff4 _ _ _ _).2 (by omega)];simp
    have HLD:=hide hld;clear hld HIS HBS;go_wp2_with (at_builtin;refine wpList_append_vals rfl (.tmp 55) (.tmp 57) 105 rfl w.heap.size 84 It.zero.val 4 32 Tryz.underlying105 item.item_info rfl (by omega) (.slice L2 j cc2) j (valsOf (kitIts ks f j)) rfl (own_keep HOW.out (((Kept.refl [] _).alloc _).alloc _) (by simp)) [] _ 1 1 (It.vals (⟨1,(m8:Int),0,0⟩:It)) rfl rfl (vals_new1 _ _ _ _) (oneCell_It _) (by simp only[maxLen];omega) (by omega) (by simp;omega) ?_;intro v1 w10 hown1 hk1 hat1;obtain⟨A3,q3,rfl⟩:=own_form hown1;have hns:wr.heap.size∉(Value.slice L2 j cc2).ownBlock.toList:=(fun hm=>by have:=(own_blk HOW.out _ hm).2.1;omega);obtain⟨y0,y1,y2,y3⟩:=item.It.cell_at (i:=(⟨1,(m8:Int),0,0⟩:It)) (hk1.blk ((Blk.new wr 84 (item.It.cells (⟨1,(m8:Int),0,0⟩:It))).alloc _) hns));have HKS:=hide (HM.out.item (Nat.le_refl _) (((Kept.refl [] wr).alloc _).alloc _) (⟨1,(m8:Int),0,0⟩:It) (by rw[HLK.out];exact hown1) hk1 hat1);rw[←HI2.out]at HKS;clear hown1 hk1 hat1 hns HOW HLK HI2;go_wp2_with fail;refine(rloaded_any (⟨1,(m8:Int),0,0⟩:It) _).mono ?_;rintro e w11 ⟨rfl,hk11⟩;rw[HLD.out];have HKT:=hide (HKS.out.keep hk11);clear hk11 y0 y1 y2 y3 HKS HLD;go_wp2_with fail;refine(bytes_any X (by omega) _).mono ?_;rintro e w12 ⟨gp,rfl,hgp,harr,hk12⟩;have hbo:=own_keep HKT.out.blocks hk12 (by simp);rw[HBQ.out]at hbo;have HBO:=hide hbo;have hz12:=Nat.le_trans HKT.out.size hk12.size;have HGP:=hide hgp;have HAR:=hide harr;have HK12:=hide hk12;clear hbo hgp harr hk12;go_wp2_with (at_builtin;refine wpList_append_vals rfl (.tmp 61) (.tmp 64) 97 rfl w.heap.size 41 (.slice none 0 0) 1 24 Tryz.underlying97 crc.slice_info rfl (by omega) (.slice P2 bq pc2) bq vs rfl (own_keep HBO.out ((Kept.refl [] w12).alloc _) (by simp)) [] _ 1 1 [.slice (some ⟨gp,0,none⟩) 64 64] rfl rfl (crc.vals_slice _ _ _) (crc.oneCell_slice _ _ _) (by simp only[maxLen];omega) (by omega) (by simp;omega) ?_;intro u1 w13 hown2 hk2 hat2;obtain⟨A5,c5,rfl⟩:=own_form hown2)
    have HKU:=hide (HKT.out.block (Nat.le_refl _) HK12.out ((Kept.refl [] w12).alloc _) HAR.out (kitBlk_len _) HGP.out (by rw[HBQ.out];exact hown2) hk2 hat2);rw[←HB2.out]at HKU;clear hown2 hk2 hat2 HKT HAR HGP HBO HK12
    first
     | (go_roundw
        case rel=>exact⟨j+1,_,by omega,by go_num,HKU⟩
        case measure=>simp [intOf];omega)
     | (go_wp2
        exact⟨⟨j+1,_,by omega,by go_num,HKU⟩,by simp [intOf];omega⟩)
     | (go_wp2
        go_roundw
        case rel=>exact⟨j+1,_,by omega,by go_num,HKU⟩
        case measure=>simp [intOf];omega)
   ·rw[h6];rw[h6]at HIS HBS;clear h6;go_wp2_with fail;refine(HM1.out _ (by omega) (by omega)).mono ?_;rintro e w3 ⟨rfl,rfl⟩;have HI2:Hid (kitIts ks f (j+1)=kitIts ks f j++[(⟨2,(m8:Int),1+(m3:Int),0⟩:It)]):=hide (by rw[HIS.out];simp only[kitItem,HM8.out,HM3.out,reduceIte]<;>rfl);have HB2:Hid (kitBks ks f (j+1)=kitBks ks f j):=hide (by rw[HBS.out];simp [kitBlocks])
    have hld:It.loaded (⟨2,(m8:Int),1+(m3:Int),0⟩:It)=false:=by unfold It.loaded;simp
    have HLD:=hide hld;clear hld HIS HBS;go_wp2_with (at_builtin;refine wpList_append_vals rfl (.tmp 55) (.tmp 57) 105 rfl w.heap.size 84 It.zero.val 4 32 Tryz.underlying105 item.item_info rfl (by omega) (.slice L2 j cc2) j (valsOf (kitIts ks f j)) rfl (own_keep HOW.out (((Kept.refl [] _).alloc _).alloc _) (by simp)) [] _ 1 1 (It.vals (⟨2,(m8:Int),1+(m3:Int),0⟩:It)) rfl rfl (vals_new1 _ _ _ _) (oneCell_It _) (by simp only[maxLen];omega) (by omega) (by simp;omega) ?_;intro v1 w10 hown1 hk1 hat1;obtain⟨A3,q3,rfl⟩:=own_form hown1;have hns:wr.heap.size∉(Value.slice L2 j cc2).ownBlock.toList:=(fun hm=>by have:=(own_blk HOW.out _ hm).2.1;omega);obtain⟨y0,y1,y2,y3⟩:=item.It.cell_at (i:=(⟨2,(m8:Int),1+(m3:Int),0⟩:It)) (hk1.blk ((Blk.new wr 84 (item.It.cells (⟨2,(m8:Int),1+(m3:Int),0⟩:It))).alloc _) hns));have HKS:=hide (HM.out.item (Nat.le_refl _) (((Kept.refl [] wr).alloc _).alloc _) (⟨2,(m8:Int),1+(m3:Int),0⟩:It) (by rw[HLK.out];exact hown1) hk1 hat1);rw[←HI2.out]at HKS;clear hown1 hk1 hat1 hns HOW HLK HI2;go_wp2_with fail;refine(rloaded_any (⟨2,(m8:Int),1+(m3:Int),0⟩:It) _).mono ?_;rintro e w11 ⟨rfl,hk11⟩;rw[HLD.out];have HKT:=hide (HKS.out.keep hk11);clear hk11 y0 y1 y2 y3 HKS HLD;rw[←HB2.out]at HKT
    first
     | (go_roundw
        case rel=>exact⟨j+1,vs,by omega,by go_num,HKT⟩
        case measure=>simp [intOf];omega)
     | (go_wp2
        exact⟨⟨j+1,vs,by omega,by go_num,HKT⟩,by simp [intOf];omega⟩)
     | (go_wp2
        go_roundw
        case rel=>exact⟨j+1,vs,by omega,by go_num,HKT⟩
        case measure=>simp [intOf];omega)
   ·rw[h6];rw[h6]at HIS HBS;clear h6;go_wp2_with fail;refine(HM1.out _ (by omega) (by omega)).mono ?_;rintro e w3 ⟨rfl,rfl⟩;have HI2:Hid (kitIts ks f (j+1)=kitIts ks f j++[(⟨3,0,0,1+(X:Int)⟩:It)]):=hide (by rw[HIS.out];simp only[kitItem,HM8.out,HM3.out,reduceIte]<;>rfl);have HB2:Hid (kitBks ks f (j+1)=kitBks ks f j):=hide (by rw[HBS.out];simp [kitBlocks])
    have hld:It.loaded (⟨3,0,0,1+(X:Int)⟩:It)=false:=by unfold It.loaded;simp
    have HLD:=hide hld;clear hld HIS HBS;go_wp2_with (at_builtin;refine wpList_append_vals rfl (.tmp 55) (.tmp 57) 105 rfl w.heap.size 84 It.zero.val 4 32 Tryz.underlying105 item.item_info rfl (by omega) (.slice L2 j cc2) j (valsOf (kitIts ks f j)) rfl (own_keep HOW.out (((Kept.refl [] _).alloc _).alloc _) (by simp)) [] _ 1 1 (It.vals (⟨3,0,0,1+(X:Int)⟩:It)) rfl rfl (vals_new1 _ _ _ _) (oneCell_It _) (by simp only[maxLen];omega) (by omega) (by simp;omega) ?_;intro v1 w10 hown1 hk1 hat1;obtain⟨A3,q3,rfl⟩:=own_form hown1;have hns:wr.heap.size∉(Value.slice L2 j cc2).ownBlock.toList:=(fun hm=>by have:=(own_blk HOW.out _ hm).2.1;omega);obtain⟨y0,y1,y2,y3⟩:=item.It.cell_at (i:=(⟨3,0,0,1+(X:Int)⟩:It)) (hk1.blk ((Blk.new wr 84 (item.It.cells (⟨3,0,0,1+(X:Int)⟩:It))).alloc _) hns));have HKS:=hide (HM.out.item (Nat.le_refl _) (((Kept.refl [] wr).alloc _).alloc _) (⟨3,0,0,1+(X:Int)⟩:It) (by rw[HLK.out];exact hown1) hk1 hat1);rw[←HI2.out]at HKS;clear hown1 hk1 hat1 hns HOW HLK HI2;go_wp2_with fail;refine(rloaded_any (⟨3,0,0,1+(X:Int)⟩:It) _).mono ?_;rintro e w11 ⟨rfl,hk11⟩;rw[HLD.out];have HKT:=hide (HKS.out.keep hk11);clear hk11 y0 y1 y2 y3 HKS HLD;rw[←HB2.out]at HKT
    first
     | (go_roundw
        case rel=>exact⟨j+1,vs,by omega,by go_num,HKT⟩
        case measure=>simp [intOf];omega)
     | (go_wp2
        exact⟨⟨j+1,vs,by omega,by go_num,HKT⟩,by simp [intOf];omega⟩)
     | (go_wp2
        go_roundw
        case rel=>exact⟨j+1,vs,by omega,by go_num,HKT⟩
        case measure=>simp [intOf];omega)
   ·rw[h6];rw[h6]at HIS HBS;clear h6;go_wp2_with fail;refine(HM1.out _ (by omega) (by omega)).mono ?_;rintro e w3 ⟨rfl,rfl⟩;have HI2:Hid (kitIts ks f (j+1)=kitIts ks f j++[(⟨4,(m8:Int),0,20+(X:Int)⟩:It)]):=hide (by rw[HIS.out];simp only[kitItem,HM8.out,HM3.out,reduceIte]<;>rfl);have HB2:Hid (kitBks ks f (j+1)=kitBks ks f j++[kitBlk X]):=hide (by rw[HBS.out];simp [kitBlocks])
    have hld:It.loaded (⟨4,(m8:Int),0,20+(X:Int)⟩:It)=true:=by unfold It.loaded;rw[(item.may_iff4 _ _ _ _).2 (by omega)];simp
    have HLD:=hide hld;clear hld HIS HBS;go_wp2_with (at_builtin;refine wpList_append_vals rfl (.tmp 55) (.tmp 57) 105 rfl w.heap.size 84 It.zero.val 4 32 Tryz.underlying105 item.item_info rfl (by omega) (.slice L2 j cc2) j (valsOf (kitIts ks f j)) rfl (own_keep HOW.out (((Kept.refl [] _).alloc _).alloc _) (by simp)) [] _ 1 1 (It.vals (⟨4,(m8:Int),0,20+(X:Int)⟩:It)) rfl rfl (vals_new1 _ _ _ _) (oneCell_It _) (by simp only[maxLen];omega) (by omega) (by simp;omega) ?_;intro v1 w10 hown1 hk1 hat1;obtain⟨A3,q3,rfl⟩:=own_form hown1;have hns:wr.heap.size∉(Value.slice L2 j cc2).ownBlock.toList:=(fun hm=>by have:=(own_blk HOW.out _ hm).2.1;omega);obtain⟨y0,y1,y2,y3⟩:=item.It.cell_at (i:=(⟨4,(m8:Int),0,20+(X:Int)⟩:It)) (hk1.blk ((Blk.new wr 84 (item.It.cells (⟨4,(m8:Int),0,20+(X:Int)⟩:It))).alloc _) hns));have HKS:=hide (HM.out.item (Nat.le_refl _) (((Kept.refl [] wr).alloc _).alloc _) (⟨4,(m8:Int),0,20+(X:Int)⟩:It) (by rw[HLK.out];exact hown1) hk1 hat1);rw[←HI2.out]at HKS;clear hown1 hk1 hat1 hns HOW HLK HI2;go_wp2_with fail;refine(rloaded_any (⟨4,(m8:Int),0,20+(X:Int)⟩:It) _).mono ?_;rintro e w11 ⟨rfl,hk11⟩;rw[HLD.out];have HKT:=hide (HKS.out.keep hk11);clear hk11 y0 y1 y2 y3 HKS HLD;go_wp2_with fail;refine(bytes_any X (by omega) _).mono ?_;rintro e w12 ⟨gp,rfl,hgp,harr,hk12⟩;have hbo:=own_keep HKT.out.blocks hk12 (by simp);rw[HBQ.out]at hbo;have HBO:=hide hbo;have hz12:=Nat.le_trans HKT.out.size hk12.size;have HGP:=hide hgp;have HAR:=hide harr;have HK12:=hide hk12;clear hbo hgp harr hk12
    go_wp2_with (at_builtin;refine wpList_append_vals rfl (.tmp 61) (.tmp 64) 97 rfl w.heap.size 41 (.slice none 0 0) 1 24 Tryz.underlying97 crc.slice_info rfl (by omega) (.slice P2 bq pc2) bq vs rfl (own_keep HBO.out ((Kept.refl [] w12).alloc _) (by simp)) [] _ 1 1 [.slice (some ⟨gp,0,none⟩) 64 64] rfl rfl (crc.vals_slice _ _ _) (crc.oneCell_slice _ _ _) (by simp only[maxLen];omega) (by omega) (by simp;omega) ?_;intro u1 w13 hown2 hk2 hat2;obtain⟨A5,c5,rfl⟩:=own_form hown2);have HKU:=hide (HKT.out.block (Nat.le_refl _) HK12.out ((Kept.refl [] w12).alloc _) HAR.out (kitBlk_len _) HGP.out (by rw[HBQ.out];exact hown2) hk2 hat2);rw[←HB2.out]at HKU;clear hown2 hk2 hat2 HKT HAR HGP HBO HK12
    first
     | (go_roundw
        case rel=>exact⟨j+1,_,by omega,by go_num,HKU⟩
        case measure=>simp [intOf];omega)
     | (go_wp2
        exact⟨⟨j+1,_,by omega,by go_num,HKU⟩,by simp [intOf];omega⟩)
     | (go_wp2
        go_roundw
        case rel=>exact⟨j+1,_,by omega,by go_num,HKU⟩
        case measure=>simp [intOf];omega)
   ·rw[h6];rw[h6]at HIS HBS;clear h6;go_wp2_with fail;refine(HM1.out _ (by omega) (by omega)).mono ?_;rintro e w3 ⟨rfl,rfl⟩;have HI2:Hid (kitIts ks f (j+1)=kitIts ks f j++[(⟨5,(m8:Int),0,0⟩:It)]):=hide (by rw[HIS.out];simp only[kitItem,HM8.out,HM3.out,reduceIte]<;>rfl);have HB2:Hid (kitBks ks f (j+1)=kitBks ks f j++[kitBlk X]):=hide (by rw[HBS.out];simp [kitBlocks])
    have hld:It.loaded (⟨5,(m8:Int),0,0⟩:It)=true:=by unfold It.loaded;rw[(item.may_iff4 _ _ _ _).2 (by omega)];simp
    have HLD:=hide hld;clear hld HIS HBS;go_wp2_with (at_builtin;refine wpList_append_vals rfl (.tmp 55) (.tmp 57) 105 rfl w.heap.size 84 It.zero.val 4 32 Tryz.underlying105 item.item_info rfl (by omega) (.slice L2 j cc2) j (valsOf (kitIts ks f j)) rfl (own_keep HOW.out (((Kept.refl [] _).alloc _).alloc _) (by simp)) [] _ 1 1 (It.vals (⟨5,(m8:Int),0,0⟩:It)) rfl rfl (vals_new1 _ _ _ _) (oneCell_It _) (by simp only[maxLen];omega) (by omega) (by simp;omega) ?_;intro v1 w10 hown1 hk1 hat1;obtain⟨A3,q3,rfl⟩:=own_form hown1;have hns:wr.heap.size∉(Value.slice L2 j cc2).ownBlock.toList:=(fun hm=>by have:=(own_blk HOW.out _ hm).2.1;omega);obtain⟨y0,y1,y2,y3⟩:=item.It.cell_at (i:=(⟨5,(m8:Int),0,0⟩:It)) (hk1.blk ((Blk.new wr 84 (item.It.cells (⟨5,(m8:Int),0,0⟩:It))).alloc _) hns));have HKS:=hide (HM.out.item (Nat.le_refl _) (((Kept.refl [] wr).alloc _).alloc _) (⟨5,(m8:Int),0,0⟩:It) (by rw[HLK.out];exact hown1) hk1 hat1);rw[←HI2.out]at HKS;clear hown1 hk1 hat1 hns HOW HLK HI2;go_wp2_with fail;refine(rloaded_any (⟨5,(m8:Int),0,0⟩:It) _).mono ?_;rintro e w11 ⟨rfl,hk11⟩;rw[HLD.out];have HKT:=hide (HKS.out.keep hk11);clear hk11 y0 y1 y2 y3 HKS HLD;go_wp2_with fail;refine(bytes_any X (by omega) _).mono ?_;rintro e w12 ⟨gp,rfl,hgp,harr,hk12⟩;have hbo:=own_keep HKT.out.blocks hk12 (by simp);rw[HBQ.out]at hbo;have HBO:=hide hbo;have hz12:=Nat.le_trans HKT.out.size hk12.size;have HGP:=hide hgp;have HAR:=hide harr;have HK12:=hide hk12;clear hbo hgp harr hk12;go_wp2_with (at_builtin;refine wpList_append_vals rfl (.tmp 61) (.tmp 64) 97 rfl w.heap.size 41 (.slice none 0 0) 1 24 Tryz.underlying97 crc.slice_info rfl (by omega) (.slice P2 bq pc2) bq vs rfl (own_keep HBO.out ((Kept.refl [] w12).alloc _) (by simp)) [] _ 1 1 [.slice (some ⟨gp,0,none⟩) 64 64] rfl rfl (crc.vals_slice _ _ _) (crc.oneCell_slice _ _ _) (by simp only[maxLen];omega) (by omega) (by simp;omega) ?_;intro u1 w13 hown2 hk2 hat2;obtain⟨A5,c5,rfl⟩:=own_form hown2)
    have HKU:=hide (HKT.out.block (Nat.le_refl _) HK12.out ((Kept.refl [] w12).alloc _) HAR.out (kitBlk_len _) HGP.out (by rw[HBQ.out];exact hown2) hk2 hat2);rw[←HB2.out]at HKU;clear hown2 hk2 hat2 HKT HAR HGP HBO HK12
    first
     | (go_roundw
        case rel=>exact⟨j+1,_,by omega,by go_num,HKU⟩
        case measure=>simp [intOf];omega)
     | (go_wp2
        exact⟨⟨j+1,_,by omega,by go_num,HKU⟩,by simp [intOf];omega⟩)
     | (go_wp2
        go_roundw
        case rel=>exact⟨j+1,_,by omega,by go_num,HKU⟩
        case measure=>simp [intOf];omega)
   ·rw[h6];rw[h6]at HIS HBS;clear h6;go_wp2_with fail;refine(HM1.out _ (by omega) (by omega)).mono ?_;rintro e w3 ⟨rfl,rfl⟩;have HI2:Hid (kitIts ks f (j+1)=kitIts ks f j++[(⟨6,(m8:Int),1+(m3:Int),0⟩:It)]):=hide (by rw[HIS.out];simp only[kitItem,HM8.out,HM3.out,reduceIte]<;>rfl);have HB2:Hid (kitBks ks f (j+1)=kitBks ks f j):=hide (by rw[HBS.out];simp [kitBlocks])
    have hld:It.loaded (⟨6,(m8:Int),1+(m3:Int),0⟩:It)=false:=by unfold It.loaded;simp
    have HLD:=hide hld;clear hld HIS HBS;go_wp2_with (at_builtin;refine wpList_append_vals rfl (.tmp 55) (.tmp 57) 105 rfl w.heap.size 84 It.zero.val 4 32 Tryz.underlying105 item.item_info rfl (by omega) (.slice L2 j cc2) j (valsOf (kitIts ks f j)) rfl (own_keep HOW.out (((Kept.refl [] _).alloc _).alloc _) (by simp)) [] _ 1 1 (It.vals (⟨6,(m8:Int),1+(m3:Int),0⟩:It)) rfl rfl (vals_new1 _ _ _ _) (oneCell_It _) (by simp only[maxLen];omega) (by omega) (by simp;omega) ?_;intro v1 w10 hown1 hk1 hat1;obtain⟨A3,q3,rfl⟩:=own_form hown1;have hns:wr.heap.size∉(Value.slice L2 j cc2).ownBlock.toList:=(fun hm=>by have:=(own_blk HOW.out _ hm).2.1;omega);obtain⟨y0,y1,y2,y3⟩:=item.It.cell_at (i:=(⟨6,(m8:Int),1+(m3:Int),0⟩:It)) (hk1.blk ((Blk.new wr 84 (item.It.cells (⟨6,(m8:Int),1+(m3:Int),0⟩:It))).alloc _) hns));have HKS:=hide (HM.out.item (Nat.le_refl _) (((Kept.refl [] wr).alloc _).alloc _) (⟨6,(m8:Int),1+(m3:Int),0⟩:It) (by rw[HLK.out];exact hown1) hk1 hat1);rw[←HI2.out]at HKS;clear hown1 hk1 hat1 hns HOW HLK HI2;go_wp2_with fail;refine(rloaded_any (⟨6,(m8:Int),1+(m3:Int),0⟩:It) _).mono ?_;rintro e w11 ⟨rfl,hk11⟩;rw[HLD.out];have HKT:=hide (HKS.out.keep hk11);clear hk11 y0 y1 y2 y3 HKS HLD;rw[←HB2.out]at HKT
    first
     | (go_roundw
        case rel=>exact⟨j+1,vs,by omega,by go_num,HKT⟩
        case measure=>simp [intOf];omega)
     | (go_wp2
        exact⟨⟨j+1,vs,by omega,by go_num,HKT⟩,by simp [intOf];omega⟩)
     | (go_wp2
        go_roundw
        case rel=>exact⟨j+1,vs,by omega,by go_num,HKT⟩
        case measure=>simp [intOf];omega)
  ·obtain rfl:j=n:=by omega
   have hlk:=kitIts_len ks f j;obtain⟨L2,cc2,hv2⟩:=own_form (show wr.ownsRow w.heap.size 84 4 _ (kitIts ks f j).length (valsOf (kitIts ks f j))from HM.out.items);rw[hlk]at hv2;subst hv2;have HLK:=hide hlk;have hsz:=HM.out.size;clear hlk
   by_cases hn0:j=0
   ·subst hn0;have hown:=HM.out.items;unfold Own at hown;rw[HLK.out]at hown;have HOW:=hide hown;have HA:Hid (kitAll ks f=[⟨3,0,0,1⟩]):=hide (if_pos HL.out);clear hown;go_wp2_with (at_builtin;refine wpList_append_vals rfl (.tmp 69) (.tmp 71) 105 rfl w.heap.size 84 It.zero.val 4 32 Tryz.underlying105 item.item_info rfl (by omega) (.slice L2 0 cc2) 0 (valsOf (kitIts ks f 0)) rfl (own_keep HOW.out ((Kept.refl [] _).alloc _) (by simp)) [] _ 1 1 (It.vals (⟨3,0,0,1⟩:It)) rfl rfl (Vals.new _ [] _ _ (by simp)) (oneCell_It _) (by simp only[maxLen];omega) (by omega) (by simp;omega) ?_;intro v1 w10 hown1 hk1 hat1;obtain⟨A3,q3,rfl⟩:=own_form hown1);have HKS:=hide (HM.out.item (Nat.le_refl _) ((Kept.refl [] wr).alloc _) (⟨3,0,0,1⟩:It) (by rw[HLK.out];exact hown1) hk1 hat1);clear hown1 hk1 hat1;go_wp2;go_ret2;rw[HA.out];exact HKS.out.outs _ rfl
   ·have HA:Hid (kitAll ks f=kitIts ks f j):=hide (by unfold kitAll;rw[if_neg (by rw[HL.out];exact hn0),HL.out]);go_wp2;go_ret2;rw[HA.out];exact HM.out.outs _ rfl
end Go.Proofs.YtjkmahmoclobmaaGreat.sc
namespace Go.Proofs.YtjkmahmoclobmaaGreat.sc
open Go.RowKit mem base disk owns
open item (It Items Own)
open crc (PartsIn)
open record (Rc RcIn put5 put5_kept cell5)
def MadeOut (w w':World)(e:Ending)(R:Rc):Prop:=
 ∃ L m lc P k pc,e= .returned (.agg #[.int .i64 R.m,.int .i64 R.l,.int .i64 R.p,.slice L m lc,.slice P k pc])∧(∀ Q:List Nat,(∀ x∈Q,x<w.heap.size)→RcIn w' Q L m P k R)∧Kept [] w w'

theorem kmade_any (p:Ps)(r:Kr)(K:Option Addr)(n c:Nat)(w:World)(hv:Vals w [] K (r.ks.map I))(hl:r.ks.length=n)(hn:n≤6)
  (hm:0≤p.m∧p.m≤2000000) (hp:0≤p.l∧p.l≤2000000) (hq:0≤p.v∧p.v≤8000000000) (hu: -1000≤r.up∧r.up≤1000) (hs: -1000≤r.skew∧r.skew≤1000):
  Calls Tryz.prog 67 #[.agg #[.int .i64 p.s,.int .i64 p.o,.int .i64 p.l,.int .i64 p.v,.int .i64 p.m],.agg #[.slice K n c,.int .i64 r.fill,.int .i64 r.skew,.int .i64 r.twist,.int .i64 r.up]] w fun e w'=>MadeOut w w' e (kmade p r):=by
 obtain⟨b2,hb2⟩:∃ b2,w.heap.size=b2:=⟨_,rfl⟩;obtain⟨w1,hw1⟩:∃ w1,w.alloc (.cells #[.int .i64 p.s,.int .i64 p.o,.int .i64 p.l,.int .i64 p.v,.int .i64 p.m] 24)=w1:=⟨_,rfl⟩;obtain⟨b3,hb3⟩:∃ b3,w1.heap.size=b3:=⟨_,rfl⟩;obtain⟨w2,hw2⟩:∃ w2,w1.alloc (.cells #[.slice K n c,.int .i64 r.fill,.int .i64 r.skew,.int .i64 r.twist,.int .i64 r.up] 117)=w2:=⟨_,rfl⟩;obtain⟨b4,hb4⟩:∃ b4,w2.heap.size=b4:=⟨_,rfl⟩;obtain⟨w3,hw3⟩:∃ w3,w2.alloc (.cells #[.int .i64 0,.int .i64 0,.int .i64 0,.slice none 0 0,.slice none 0 0] 111)=w3:=⟨_,rfl⟩
 have k1:Kept [] w w1:=by rw[←hw1];exact(Kept.refl [] w).alloc _
 have k2:Kept [] w1 w2:=by rw[←hw2];exact(Kept.refl [] w1).alloc _
 have k3:Kept [] w2 w3:=by rw[←hw3];exact(Kept.refl [] w2).alloc _
 have m1:Blk w1 b2 24 #[.int .i64 p.s,.int .i64 p.o,.int .i64 p.l,.int .i64 p.v,.int .i64 p.m]:=by rw[←hw1,←hb2];exact Blk.new w _ _
 have m2:Blk w2 b3 117 #[.slice K n c,.int .i64 r.fill,.int .i64 r.skew,.int .i64 r.twist,.int .i64 r.up]:=by rw[←hw2,←hb3];exact Blk.new w1 _ _
 have m3:Blk w3 b4 111 #[.int .i64 0,.int .i64 0,.int .i64 0,.slice none 0 0,.slice none 0 0]:=by rw[←hw3,←hb4];exact Blk.new w2 _ _
 have k23:=k2.trans k3 (by simp);have k13:=k1.trans k23 (by simp);have HM1:=hide (k23.blk m1 (by simp));have HM2:=hide (k3.blk m2 (by simp));have HM3:=hide m3;have HK:=hide k13;have HSEP:=hide (show w.heap.size≤b2∧b2<b3∧b3<b4 by have a1:=m1.lt;have a2:=m2.lt;omega);have HV:=hide (hv.kept k13 (by simp));obtain⟨p0,p1,p2,p3,p4⟩:=cell5 HM1.out;obtain⟨r0,r1,r2,r3,r4⟩:=cell5 HM2.out;have HL:=hide hl;have a1:=Int.emod_nonneg (r.up+3) (show(7:Int)≠0 by omega);have a2:=Int.emod_lt_of_pos (r.up+3) (show(0:Int)<7 by omega);have s1:=Int.emod_nonneg (r.skew+2) (show(5:Int)≠0 by omega);have s2:=Int.emod_lt_of_pos (r.skew+2) (show(0:Int)<5 by omega);have t1:=Int.emod_nonneg r.twist (show(3:Int)≠0 by omega);have t2:=Int.emod_lt_of_pos r.twist (show(0:Int)<3 by omega);have hr1:=mod_any (r.up+3) 7;have hr2:=mod_any (r.skew+2) 5;have hr3:=mod_any r.twist 3;obtain⟨yu,hyu⟩:∃ y,(r.up+3)%7=y:=⟨_,rfl⟩;obtain⟨ys,hys⟩:∃ y,(r.skew+2)%5=y:=⟨_,rfl⟩;obtain⟨yt,hyt⟩:∃ y,r.twist%3=y:=⟨_,rfl⟩;have hr4:=mod_any (p.v+yt) 4294967296;obtain⟨yp,hyp⟩:∃ y,(p.v+yt)%4294967296=y:=⟨_,rfl⟩;simp only[hyu]at hr1 a1 a2;simp only[hys]at hr2 s1 s2;simp only[hyt]at hr3 t1 t2;simp only[hyp]at hr4;have HR1:=hide hr1;have HR2:=hide hr2;have HR3:=hide hr3;have HR4:=hide hr4
 have HMD:Hid (kmade p r=⟨max (p.m+yu-3) 1,max (p.l+ys-2) 1,yp,kitAll r.ks (r.fill%1000).toNat,kitBks r.ks (r.fill%1000).toNat n⟩):=hide (by
  unfold kmade
  rw[hyu,hys,hyt,hyp,hl])
 have hw1b:IntKind.i64.wrap (r.up+3)=r.up+3:=IntWalk.i64_in _ (by omega);have hw2b:IntKind.i64.wrap (r.skew+2)=r.skew+2:=IntWalk.i64_in _ (by omega);have hw3b:IntKind.i64.wrap (p.m+yu)=p.m+yu:=IntWalk.i64_in _ (by omega);have hw4b:IntKind.i64.wrap (p.m+yu-3)=p.m+yu-3:=IntWalk.i64_in _ (by omega);have hw5b:IntKind.i64.wrap (p.l+ys)=p.l+ys:=IntWalk.i64_in _ (by omega);have hw6b:IntKind.i64.wrap (p.l+ys-2)=p.l+ys-2:=IntWalk.i64_in _ (by omega);have hw7b:IntKind.i64.wrap (p.v+yt)=p.v+yt:=IntWalk.i64_in _ (by omega);clear k1 k2 k3 m1 m2 m3 k23 k13 hv hl hr1 hr2 hr3 hr4 hyu hys hyt hyp;go_enter Tryz.func67,Tryz.ntmps67;go_wp2_with fail;refine(items_any K n c r.ks r.fill _ HV.out HL.out hn).mono ?_;rintro e w4 ⟨L,lc,P,pc,rfl,hfar,hk4⟩;have HFAR:=hide hfar;have HM1b:=hide (hk4.blk HM1.out (by simp));have HM2b:=hide (hk4.blk HM2.out (by simp));have HM3b:=hide (hk4.blk HM3.out (by simp));have HK4:=hide (HK.out.trans hk4 (by simp));have HZ3:=hide (Nat.le_of_eq (show w3.heap.size=w3.heap.size from rfl));have HB3:=hide HM3.out.lt;clear p0 p1 p2 p3 p4 r0 r1 r2 r3 r4 hfar hk4 HM1 HM2 HM3 HK HV;obtain⟨p0,p1,p2,p3,p4⟩:=cell5 HM1b.out;obtain⟨r0,r1,r2,r3,r4⟩:=cell5 HM2b.out;obtain⟨iq,hiq⟩:∃ iq,(kitAll r.ks (r.fill%1000).toNat).length=iq:=⟨_,rfl⟩;obtain⟨bq,hbq⟩:∃ bq,(kitBks r.ks (r.fill%1000).toNat n).length=bq:=⟨_,rfl⟩;rw[hiq,hbq];have HIQ:=hide hiq;have HBQ:=hide hbq;clear hiq hbq;go_wp2;refine wp_region_noPanic ?_;refine wp_region_held_drew (S:=fun W=>True∧(W.cell? ⟨b2,0,none⟩=some (.int .i64 p.s)∧W.cell? ⟨b2,1,none⟩=some (.int .i64 p.o)∧W.cell? ⟨b2,2,none⟩=some (.int .i64 p.l)∧W.cell? ⟨b2,3,none⟩=some (.int .i64 p.v)∧W.cell? ⟨b2,4,none⟩=some (.int .i64 p.m))∧W.cell? ⟨b3,0,none⟩=some (.slice K n c)∧W.cell? ⟨b3,1,none⟩=some (.int .i64 r.fill)∧W.cell? ⟨b3,2,none⟩=some (.int .i64 r.skew)∧W.cell? ⟨b3,3,none⟩=some (.int .i64 r.twist)∧W.cell? ⟨b3,4,none⟩=some (.int .i64 r.up)) (by kernel_rfl) (by exact⟨trivial,⟨p0,p1,p2,p3,p4⟩,r0,r1,r2,r3,r4⟩) (fun hHeld=> ?_)
 refine tK 0 16 rfl ?_;refine tK 1 17 rfl ?_;refine tK 2 18 rfl ?_;refine tK 3 19 rfl ?_;refine tK 4 20 rfl ?_;refine hO 5 (some 21) rfl fun K hK=> ?_;go_simp;refine(HR1.out _ (by omega) (by omega)).mono ?_;rintro e wx ⟨rfl,rfl⟩;refine hK.out _ _ (by exact hHeld) (fun hHeld=>tS ?_);clear hK K;refine tK 6 22 rfl ?_;refine tK 7 23 rfl ?_;refine tK 8 7 rfl ?_;refine wpAnyH_done (by kernel_rfl) ?_ _;refine NoPanic.normal ?_;clear hHeld;have HM1c:=hide HM1b.out.drew;have HM2c:=hide HM2b.out.drew;have HM3c:=hide HM3b.out.drew;have HFc:Hid (∀ Q:List Nat,(∀ x∈Q,x<w3.heap.size)→Items w4.drew Q L (kitAll r.ks (r.fill%1000).toNat)∧∃ vs,PartsIn w4.drew Q vs (kitBks r.ks (r.fill%1000).toNat n)∧Vals w4.drew Q P vs):=HFAR;have HKc:=hide HK4.out.drew;clear HM1b HM2b HM3b HFAR HK4 p0 p1 p2 p3 p4 r0 r1 r2 r3 r4;go_wp2;generalize w4.drew=w5 at HM1c HM2c HM3c HFc HKc ⊢;obtain⟨p0,p1,p2,p3,p4⟩:=cell5 HM1c.out;obtain⟨r0,r1,r2,r3,r4⟩:=cell5 HM2c.out;have hf:=HM3c.out.frozen;have f0:=hf 0;have f1:=hf 1;have f2:=hf 2;have f3:=hf 3;have f4:=hf 4;obtain⟨q0,q1,q2,q3,q4⟩:=cell5 HM3c.out;have HBA:=hide ((put5 (.int .i64 (if p.m+yu-3<1 then 1 else p.m+yu-3)) (.int .i64 (if p.l+ys-2<1 then 1 else p.l+ys-2)) (.int .i64 yp) (.slice L iq lc) (.slice P bq pc) HM3c.out).drew);have HKA:=hide ((put5_kept (g:=b4) (S:=[b4]) (.int .i64 (if p.m+yu-3<1 then 1 else p.m+yu-3)) (.int .i64 (if p.l+ys-2<1 then 1 else p.l+ys-2)) (.int .i64 yp) (.slice L iq lc) (.slice P bq pc) (Kept.refl [b4] w5) (.inl (by simp))).drew);clear hf
 refine wp_region_noPanic ?_;refine wp_region_held_drew (S:=fun W=>True∧(W.cell? ⟨b2,0,none⟩=some (.int .i64 p.s)∧W.cell? ⟨b2,1,none⟩=some (.int .i64 p.o)∧W.cell? ⟨b2,2,none⟩=some (.int .i64 p.l)∧W.cell? ⟨b2,3,none⟩=some (.int .i64 p.v)∧W.cell? ⟨b2,4,none⟩=some (.int .i64 p.m))∧W.cell? ⟨b3,0,none⟩=some (.slice K n c)∧W.cell? ⟨b3,1,none⟩=some (.int .i64 r.fill)∧W.cell? ⟨b3,2,none⟩=some (.int .i64 r.skew)∧W.cell? ⟨b3,3,none⟩=some (.int .i64 r.twist)∧W.cell? ⟨b3,4,none⟩=some (.int .i64 r.up)) (by kernel_rfl) (by exact⟨trivial,⟨p0,p1,p2,p3,p4⟩,r0,r1,r2,r3,r4⟩) (fun hHeld=> ?_);refine tK 0 24 rfl ?_;refine tK 1 25 rfl ?_;refine tK 2 26 rfl ?_;refine tK 3 27 rfl ?_;refine tK 4 28 rfl ?_;refine tK 5 29 rfl ?_;refine tK 6 30 rfl ?_;refine tK 11 35 rfl ?_;refine tK 12 36 rfl ?_;refine tK 13 37 rfl ?_;refine tK 14 38 rfl ?_;refine tK 18 42 rfl ?_;refine tK 19 43 rfl ?_;refine hO 7 (some 31) rfl fun K hK=> ?_;go_simp;refine(HR2.out _ (by omega) (by omega)).mono ?_;rintro e wx ⟨rfl,rfl⟩;refine hK.out _ _ (by exact hHeld) (fun hHeld=>tS ?_);clear hK K;refine tK 8 32 rfl ?_;refine tK 9 33 rfl ?_;refine tK 10 34 rfl ?_;refine hO 15 (some 39) rfl fun K hK=> ?_;go_simp;refine(HR3.out _ (by omega) (by omega)).mono ?_;rintro e wx ⟨rfl,rfl⟩;refine hK.out _ _ (by exact hHeld) (fun hHeld=>tS ?_);clear hK K;refine tK 16 40 rfl ?_;refine hO 17 (some 41) rfl fun K hK=> ?_;go_simp;refine(HR4.out _ (by omega) (by omega)).mono ?_;rintro e wx ⟨rfl,rfl⟩;refine hK.out _ _ (by exact hHeld) (fun hHeld=>tS ?_)
 clear hK K;refine tK 20 44 rfl ?_;refine hO 21 none rfl fun K hK=> ?_;go_simp;generalize (World.setCell (World.setCell (World.setCell (World.setCell (World.setCell w5 ⟨b4,0,none⟩ (.int .i64 (if p.m+yu-3<1 then 1 else p.m+yu-3))) ⟨b4,1,none⟩ (.int .i64 (if p.l+ys-2<1 then 1 else p.l+ys-2))) ⟨b4,2,none⟩ (.int .i64 yp)) ⟨b4,3,none⟩ (.slice L iq lc)) ⟨b4,4,none⟩ (.slice P bq pc)).drew=wA at HBA HKA ⊢;have HP:=hide (cell5 (HKA.out.blk HM1c.out (by have:=HSEP.out;simp;omega)));have HQ:=hide (cell5 (HKA.out.blk HM2c.out (by have:=HSEP.out;simp;omega)));refine hK.out _ _ (by exact⟨trivial,HP.out,HQ.out⟩) (fun hHeld=>tS ?_);clear hK K;refine wpAnyH_done (by kernel_rfl) ?_ _;refine NoPanic.normal ?_;have HX1:Hid ((if p.m+yu-3<1 then 1 else p.m+yu-3)=max (p.m+yu-3) 1):=hide (by omega);have HX2:Hid ((if p.l+ys-2<1 then 1 else p.l+ys-2)=max (p.l+ys-2) 1):=hide (by omega);clear hHeld;generalize (if p.m+yu-3<1 then 1 else p.m+yu-3)=x1 at HX1 HBA ⊢;generalize (if p.l+ys-2<1 then 1 else p.l+ys-2)=x2 at HX2 HBA ⊢;go_wp2;obtain⟨t0,t1,t2,t3,t4⟩:=cell5 HBA.out;refine bodyPost_ret (v:= .agg #[.int .i64 x1,.int .i64 x2,.int .i64 yp,.slice L iq lc,.slice P bq pc]) ?_ rfl ⟨L,iq,lc,P,bq,pc,?_,?_,HKc.out.trans HKA.out (fun i hi=>by simp at hi;subst hi;have:=HSEP.out;exact .inr (by omega))⟩
 ·simp [results,Tryz.results67,go_sem,t0,t1,t2,t3,t4]
 ·rw[HMD.out,HX1.out,HX2.out]
 ·intro Q hQ;have hb:=HSEP.out;have hb3:=HB3.out;obtain⟨hi,vs,hp,hv⟩:=HFc.out (b4::Q) (List.forall_mem_cons.2 ⟨by omega,fun x hx=>by have:=hQ x hx;omega⟩);rw[HMD.out];refine⟨HIQ.out,HBQ.out,(hi.kept HKA.out (by simp)).mono (fun i hi=>by simp [hi]),vs,(hp.kept HKA.out (by simp)).less (fun i hi=>by simp [hi]),(hv.kept HKA.out (by simp)).mono (fun i hi=>by simp [hi])⟩
end Go.Proofs.YtjkmahmoclobmaaGreat.sc
namespace Go.Proofs.YtjkmahmoclobmaaGreat.sc
open Go.RowKit mem base disk
structure Dd (w:World)(F:List Nat)(p:Nat)(G:List Nat)(r:Nat)(D:Dk):Prop where
 a:VD w F p D
 b:RD w G r D
 sep:∀ x∈F,x∉G
theorem Dd.kept {w w':World}{F G S:List Nat}{p r:Nat}{D:Dk}(h:Dd w F p G r D)(k:Kept S w w')(hF:∀ x∈F,x∉S)(hG:∀ x∈G,x∉S):Dd w' F p G r D:=⟨h.a.kept k hF,h.b.kept k hG,h.sep⟩
theorem Dd.kept0 {w w':World}{F G:List Nat}{p r:Nat}{D:Dk}(h:Dd w F p G r D)(k:Kept [] w w'):Dd w' F p G r D:=h.kept k (by simp) (by simp)
theorem Dd.lt {w:World}{F G:List Nat}{p r:Nat}{D:Dk}(h:Dd w F p G r D):∀ x∈F++G,x<w.heap.size:=fun x hx=>(List.mem_append.1 hx).elim (h.a.lt x) (h.b.lt x)
def DdTo (w w':World)(F:List Nat)(p:Nat)(G:List Nat)(r:Nat)(D':Dk):Prop:=∃ F' G',Dd w' F' p G' r D'∧(∀ x∈F'++G',x∈F++G∨w.heap.size≤x)∧Kept (F++G) w w'

section
variable {w w':World}{F G:List Nat}{p r:Nat}{D D':Dk}
theorem Dd.left (h:Dd w F p G r D){E:Dk}(t:Turned w w' F p E):∃ F',VD w' F' p E∧RD w' G r D∧(∀ x∈F',x∉G)∧(∀ x∈F',x∈F∨w.heap.size≤x)∧Kept F w w':=by
 obtain⟨F',hv,hs,hk⟩:=t;refine⟨F',hv,h.b.kept hk (fun x hx hm=>h.sep x hm hx),fun x hx hm=> ?_,hs,hk⟩
 rcases hs x hx with h1|h1
 ·exact h.sep x h1 hm
 ·have:=h.b.lt x hm;omega
end
theorem dd_write {F G:List Nat}{p r:Nat}{D:Dk}{w w1 w2:World}(h:Dd w F p G r D)(x:Int)(bs:List UInt8)(t1:Turned w w1 F p (D.write x bs).2)(t2:RTurned w1 w2 G r (D.write x bs).2):DdTo w w2 F p G r (D.write x bs).2:=by
 obtain⟨F',hv,_,hsep,hs,hk⟩:=h.left t1;obtain⟨G',hr2,hs2,hk2⟩:=t2;have hs1:=hk.size;refine⟨F',G',⟨hv.kept hk2 hsep,hr2,fun y hy hm=> ?_⟩,fun y hy=> ?_,?_⟩
 ·rcases hs2 y hm with h1|h1
  ·exact hsep y hy h1
  ·have:=hv.lt y hy;omega
 ·rcases List.mem_append.1 hy with hy|hy
  ·exact(hs y hy).imp (fun h=>by simp [h]) id
  ·exact(hs2 y hy).imp (fun h=>by simp [h]) (fun h=>by omega)
 ·exact(hk.mono (S':=F++G) (fun y hy=>by simp [hy])).trans hk2 (fun y hy=>by simp [hy])
theorem dd_flush {F G:List Nat}{p r:Nat}{D:Dk}{w w1 w2:World}(h:Dd w F p G r D)(t1:Turned w w1 F p D.flush.2)(t2:RTurned w1 w2 G r D.flush.2):DdTo w w2 F p G r D.flush.2:=by
 obtain⟨F',hv,_,hsep,hs,hk⟩:=h.left t1;obtain⟨G',hr2,hs2,hk2⟩:=t2;have hs1:=hk.size;refine⟨F',G',⟨hv.kept hk2 hsep,hr2,fun y hy hm=> ?_⟩,fun y hy=> ?_,?_⟩
 ·rcases hs2 y hm with h1|h1
  ·exact hsep y hy h1
  ·have:=hv.lt y hy;omega
 ·rcases List.mem_append.1 hy with hy|hy
  ·exact(hs y hy).imp (fun h=>by simp [h]) id
  ·exact(hs2 y hy).imp (fun h=>by simp [h]) (fun h=>by omega)
 ·exact(hk.mono (S':=F++G) (fun y hy=>by simp [hy])).trans hk2 (fun y hy=>by simp [hy])

theorem put_any (F G:List Nat)(p r:Nat)(D:Dk)(a:Nat)(A:Option Addr)(n c m:Nat)(bs:List UInt8)(w:World)(h:Dd w F p G r D)(hL:Live D)(ha:a+m≤D.n)(hm:m≤100)(hac:D.acts≤900000)
  (hl:bs.length=64*m) (hn:n=64*m) (hnc:n≤c) (hv:Vals w (F++G) A (bs.map B)):
  Calls Tryz.prog 17 #[.pointer (some ⟨p,0,none⟩),.pointer (some ⟨r,0,none⟩),.int .i64 a,.slice A n c] w fun e w'=>e= .returned (.bool true)∧DdTo w w' F p G r (putD D a bs):=by
 subst hn;have HD:=hide h;have HV:=hide hv;have HL:=hide hL;have HA:=hide ha;have HLN:=hide hl;have hD:=h.a.1;have HOK:=hide hD;have h4096:=hD.n2
 have hdiv:(64*(m:Int)).tdiv 64=(m:Int):=by rw[Int.tdiv_eq_ediv_of_nonneg (by omega)];omega
 have HAC:=hide hac;clear h hv hL hl hD;go_enter Tryz.func17,Tryz.ntmps17;go_wp2
 go_loopw [9] (fun i wr=>∃ (k:Nat) (F1 G1:List Nat),k≤m∧i= .int .i64 k∧Hid (Dd wr F1 p G1 r (putk D a bs k))∧Hid (∀ x∈F1++G1,x∈F++G∨w.heap.size≤x)∧Hid (Kept (F++G) w wr)∧Hid (Vals wr (F1++G1) A (bs.map B))) (fun i wr=>m-(intOf i).toNat)
 case atStart=>exact⟨0,F,G,Nat.zero_le _,rfl,HD,hide (fun x hx=> .inl hx),hide (Kept.refl _ _),HV⟩
 case round=>
  obtain⟨k,F1,G1,hk,rfl,HDr,HSr,HKr,HVr⟩:=hrel;have hpk:=putk_live HL.out HOK.out a bs m HA.out HLN.out k hk
  by_cases hlt:k<m
  ·have hpos:0<(bs.map B).length:=by rw[List.length_map,HLN.out];omega
   obtain⟨ad,had⟩:∃ ad,A=some ad:=by
    obtain⟨ad,h1,_⟩:=HVr.out 0 _ (List.getElem?_eq_getElem hpos);exact⟨ad,h1⟩
   subst had;have HPK:=hide hpk;clear hpk hpos;have hs64:(sec bs k).length=64:=sec_length bs k m HLN.out hlt;have HS64:=hide hs64
   have HVK:Hid (Vals wr (F1++G1) (some (ad.add (k*64))) ((sec bs k).map B)):=hide (by
    have h1:=HVr.out.cut (k*64) 64;rw[←List.map_drop,←List.map_take,Nat.mul_comm k 64]at h1;rw[Nat.mul_comm k 64]
    exact h1)
   have hpa:(putk D a bs k).acts<1000000:=by have:=HPK.out.2.2.2.2.1;omega
   have HPA:=hide hpa;clear hs64 hpa;go_wp2_with fail;refine(write_at p F1 (putk D a bs k) ((a:Int)+k) (some (ad.add (k*64))) _ _ (sec bs k) _ HDr.out.a HPA.out (HVK.out.mono (fun i hi=>by simp [hi])) (by rw[HS64.out];omega)).mono ?_;rintro e w1 ⟨rfl,ht1⟩;have HT1:=hide ht1;have HLF:=hide (HDr.out.left ht1)
   have HV1:Hid (Vals w1 G1 (some (ad.add (k*64))) ((sec bs k).map B)):=hide (by
    obtain⟨F',_,_,_,_,hk1⟩:=HLF.out
    exact(HVK.out.kept hk1 (fun i hi=>by simp [hi])).mono (fun i hi=>by simp [hi]))
   have HR1:Hid (RD w1 G1 r (putk D a bs k)):=hide (by
    obtain⟨F',_,h2,_,_,_⟩:=HLF.out
    exact h2)
   clear ht1 HLF;go_wp2_with fail;refine(rwrite_at r G1 (putk D a bs k) ((a:Int)+k) (some (ad.add (k*64))) _ _ (sec bs k) _ HR1.out HPA.out HV1.out (by rw[HS64.out];omega) (by omega)).mono ?_;rintro e w2 ⟨rfl,ht2⟩;have HDT:=hide (dd_write HDr.out ((a:Int)+k) (sec bs k) HT1.out ht2);clear ht2 HT1 HV1 HR1;obtain⟨y,hy⟩:∃ y,((putk D a bs k).write ((a:Int)+k) (sec bs k)).1=y:=⟨_,rfl⟩;rw[hy]
   have ty:(y != y)=false:=by simp
   clear hy;obtain⟨F2,G2,hd2,hs2,hk2⟩:=HDT.out;have HD2:Hid (Dd w2 F2 p G2 r (putk D a bs (k+1))):=hide hd2;have HS2:Hid (∀ x∈F2++G2,x∈F++G∨w.heap.size≤x):=hide (fun x hx=>(hs2 x hx).elim (HSr.out x) (fun h=> .inr (Nat.le_trans HKr.out.size h)));have HK2:Hid (Kept (F++G) w w2):=hide (HKr.out.trans hk2 (fun i hi=>HSr.out i hi));have HV2:Hid (Vals w2 (F2++G2) (some ad) (bs.map B)):=hide (((HVr.out.away (S':=(F1++G1)++(F2++G2)) (fun i hi=>(List.mem_append.1 hi).elim .inl (hs2 i))).kept hk2 (fun i hi=>List.mem_append_left _ hi)).mono (fun i hi=>List.mem_append_right _ hi));clear hd2 hs2 hk2 HDT HVK HDr HSr HKr HVr;go_wp2;exact⟨⟨k+1,F2,G2,by omega,by go_num,HD2,HS2,HK2,HV2⟩,by simp [intOf];omega⟩
  ·obtain rfl:k=m:=by omega
   have hpa:(putk D a bs k).acts<1000000:=by have:=hpk.2.2.2.2.1;omega
   have HPA:=hide hpa;clear hpk hpa;go_wp2_with fail;refine(flush_at p F1 (putk D a bs k) _ HDr.out.a HPA.out).mono ?_;rintro e w1 ⟨rfl,ht1⟩;have HT1:=hide ht1
   have HR1:Hid (RD w1 G1 r (putk D a bs k)):=hide (by
    obtain⟨F',_,h2,_,_,_⟩:=HDr.out.left ht1
    exact h2)
   clear ht1;go_wp2_with fail;refine(rflush_at r G1 (putk D a bs k) _ HR1.out HPA.out).mono ?_;rintro e w2 ⟨rfl,ht2⟩;have HDT:=hide (dd_flush HDr.out HT1.out ht2);have HE:Hid ((putk D a bs k).flush.2=putD D a bs):=hide (by unfold putD;rw[HLN.out,show 64*k/64=k by omega]);clear ht2 HT1 HR1;obtain⟨y,hy⟩:∃ y,(putk D a bs k).flush.1=y:=⟨_,rfl⟩;rw[hy]
   have ty:(y==y)=true:=by simp
   clear hy;go_wp2;go_ret;refine⟨by simp,?_⟩;obtain⟨F2,G2,hd2,hs2,hk2⟩:=HDT.out;rw[HE.out]at hd2;exact⟨F2,G2,hd2,fun x hx=>(hs2 x hx).elim (HSr.out x) (fun h=> .inr (Nat.le_trans HKr.out.size h)),HKr.out.trans hk2 (fun i hi=>HSr.out i hi)⟩
end Go.Proofs.YtjkmahmoclobmaaGreat.sc
namespace Go.Proofs.YtjkmahmoclobmaaGreat.sc
open Go.RowKit mem base disk owns
open item (It Items Own)
open crc (PartsIn)
open record (Rc RcIn put5 put5_kept cell5)
open hd (Hd)
def headOf (p:Ps):Hd:=⟨p.s,p.m,p.l,p.v⟩

theorem khead_any (F G:List Nat)(d rd:Nat)(D:Dk)(p:Ps)(b s l r q:Int)(a:Nat)(w:World)(h:Dd w F d G rd D)(hR:Reads D)(hf:geom.Rf b s l r q)(hi:0≤p.s∧p.s≤s-1)(hH:(headOf p).may=true)(ha:2+2*r+4*q+p.s*l=(a:Int))(hn:a+1≤D.n)(hac:D.acts≤900000):
  Calls Tryz.prog 13 #[.pointer (some ⟨d,0,none⟩),.pointer (some ⟨rd,0,none⟩),.agg #[.int .i64 b,.int .i64 s,.int .i64 l],.agg #[.int .i64 p.s,.int .i64 p.o,.int .i64 p.l,.int .i64 p.v,.int .i64 p.m]] w fun e w'=>e= .returned (.bool true)∧DdTo w w' F d G rd (putD D a (headOf p).bytes):=by
 obtain⟨b6,hb6⟩:∃ b6,w.heap.size=b6:=⟨_,rfl⟩;obtain⟨w1,hw1⟩:∃ w1,w.alloc (.cells #[.int .i64 b,.int .i64 s,.int .i64 l] 29)=w1:=⟨_,rfl⟩;obtain⟨b7,hb7⟩:∃ b7,w1.heap.size=b7:=⟨_,rfl⟩;obtain⟨w2,hw2⟩:∃ w2,w1.alloc (.cells #[.int .i64 p.s,.int .i64 p.o,.int .i64 p.l,.int .i64 p.v,.int .i64 p.m] 24)=w2:=⟨_,rfl⟩
 have k1:Kept [] w w1:=by rw[←hw1];exact(Kept.refl [] w).alloc _
 have k2:Kept [] w1 w2:=by rw[←hw2];exact(Kept.refl [] w1).alloc _
 have m1:Blk w1 b6 29 #[.int .i64 b,.int .i64 s,.int .i64 l]:=by rw[←hw1,←hb6];exact Blk.new w _ _
 have m2:Blk w2 b7 24 #[.int .i64 p.s,.int .i64 p.o,.int .i64 p.l,.int .i64 p.v,.int .i64 p.m]:=by rw[←hw2,←hb7];exact Blk.new w1 _ _
 have k12:=k1.trans k2 (by simp);have HM1:=hide (k2.blk m1 (by simp));have HM2:=hide m2;have HK:=hide k12;have HD:=hide (h.kept k12 (by simp) (by simp));have HLT:=hide h.lt;have HR:=hide hR;have HF:=hide hf;have HI:=hide hi;have HH:=hide hH;have HA:=hide ha;have HN:=hide hn;obtain⟨c0,c1,c2⟩:w2.cell? ⟨b6,0,none⟩=some (.int .i64 b)∧w2.cell? ⟨b6,1,none⟩=some (.int .i64 s)∧w2.cell? ⟨b6,2,none⟩=some (.int .i64 l):=⟨HM1.out.cell 0,HM1.out.cell 1,HM1.out.cell 2⟩;obtain⟨p0,p1,p2,p3,p4⟩:=cell5 HM2.out;clear k1 k2 m1 m2 k12 h hR hf hi hH ha hn;go_enter Tryz.func13,Tryz.ntmps13;go_wp2_with fail;refine(hd.rbytes_new (headOf p) _ HH.out).mono ?_;rintro e w3 ⟨g,rfl,hg,harr,hk3⟩;have HG:=hide hg;have HAR:=hide harr;have HK3:=hide hk3;have HKA:=hide (HK.out.trans hk3 (by simp));obtain⟨d0,d1,d2⟩:w3.cell? ⟨b6,0,none⟩=some (.int .i64 b)∧w3.cell? ⟨b6,1,none⟩=some (.int .i64 s)∧w3.cell? ⟨b6,2,none⟩=some (.int .i64 l):=⟨hk3.cell c0 (by simp),hk3.cell c1 (by simp),hk3.cell c2 (by simp)⟩;have q0:=hk3.cell p0 (by simp);clear hg harr hk3 c0 c1 c2 p0 p1 p2 p3 p4;go_wp2_with fail;refine(geom.rsegAt_yes b s l r q p.s _ HF.out HI.out).mono ?_;rintro e w4 ⟨rfl,hk4⟩;rw[HA.out];have HD4:=hide ((HD.out.kept0 HK3.out).kept0 hk4);have HAR4:=hide (HAR.out.kept hk4 (by simp));have HK4:=hide (HKA.out.trans hk4 (by simp));clear hk4 q0 d0 d1 d2;go_wp2_with fail;refine(put_any F G d rd D a (some ⟨g,0,none⟩) 64 64 1 (headOf p).bytes _ HD4.out HR.out.live HN.out (by omega) hac (Hd.bytes_len _) rfl (by omega) (HAR4.out.vals (fun hm=>by have h1:=HLT.out g hm;have h2:=HG.out;have h3:=HK.out.size;omega))).mono ?_
 rintro e w5 ⟨rfl,F',G',h1,h2,h3⟩;have HX:Hid (DdTo w w5 F d G rd (putD D a (headOf p).bytes)):=hide ⟨F',G',h1,fun x hx=>(h2 x hx).imp id (fun hh=>by have:=HK4.out.size;omega),(HK4.out.mono (S':=F++G) (by simp)).trans h3 (fun i hi=> .inl hi)⟩;clear h1 h2 h3;go_wp2;go_ret;exact⟨rfl,HX.out⟩
def KrIn (w:World)(S:List Nat):List Kr→List Value→Prop
 | [],vs=>vs=[]
 | r::l,vs=>∃ L c rest,vs= .slice L r.ks.length c:: .int .i64 r.fill:: .int .i64 r.skew:: .int .i64 r.twist:: .int .i64 r.up::rest∧Vals w S L (r.ks.map I)∧KrIn w S l rest
theorem KrIn.kept {w w':World}{S S':List Nat}(k:Kept S' w w')(hs:∀ i∈S',i∈S):∀ {l:List Kr} {vs:List Value},KrIn w S l vs→KrIn w' S l vs
 | [],_,h=>h
 | _::_,_,⟨L,c,rest,h1,h2,h3⟩=>⟨L,c,rest,h1,h2.kept k hs,h3.kept k hs⟩
theorem KrIn.away {w:World}{S S':List Nat}(hs:∀ i∈S',i∈S∨w.heap.size≤i):∀ {l:List Kr} {vs:List Value},KrIn w S l vs→KrIn w S' l vs
 | [],_,h=>h
 | _::_,_,⟨L,c,rest,h1,h2,h3⟩=>⟨L,c,rest,h1,h2.away hs,h3.away hs⟩
theorem KrIn.at_ {w:World}{S:List Nat}:∀ {l:List Kr} {vs:List Value} {k:Nat} {r:Kr},KrIn w S l vs→l[k]? = some r→∃ L c,Vals w S L (r.ks.map I)∧vs[5*k]? = some (.slice L r.ks.length c)∧vs[5*k+1]? = some (.int .i64 r.fill)∧vs[5*k+2]? = some (.int .i64 r.skew)∧vs[5*k+3]? = some (.int .i64 r.twist)∧vs[5*k+4]? = some (.int .i64 r.up)
 | [],_,_,_,_,hk=>by simp at hk
 | r'::l,vs,0,r,⟨L,c,rest,h1,h2,h3⟩,hk=>by
  simp at hk;subst hk;subst h1;exact⟨L,c,h2,rfl,rfl,rfl,rfl,rfl⟩
 | r'::l,vs,k+1,r,⟨L,c,rest,h1,h2,h3⟩,hk=>by
  obtain⟨L',c',i1,i2⟩:=h3.at_ (k:=k) (r:=r) (by simpa using hk);subst h1;refine⟨L',c',i1,?_⟩;rw[show 5*(k+1)=5*k+1+1+1+1+1 by omega]
  simpa only[List.getElem?_cons_succ,Nat.add_right_comm _ 1]using i2
def logD (D:Dk)(a:Nat)(z:Int)(p:Ps):List Kr→Dk×Ps
 | []=>(D,p)
 | r::l=>if z-1<p.o+lenOf (kmade p r)then(D,p)else logD (putD D (a+p.o.toNat) (kmade p r).bytes) a z ⟨p.s,p.o+lenOf (kmade p r),(kmade p r).l+1,(kmade p r).sum,(kmade p r).m⟩ l
structure LogOk (p:Ps)(k:Nat):Prop where
 o:1≤p.o∧p.o≤1000
 m:0≤p.m∧p.m≤1100000+4*k
 l:0≤p.l∧p.l≤1100000+4*k
 v:0≤p.v∧p.v≤4294967295
theorem LogOk.next {p:Ps}{k:Nat}{r:Kr}(h:LogOk p k)(z:Int)(hz:z≤64)(hf:¬z-1<p.o+lenOf (kmade p r)):LogOk ⟨p.s,p.o+lenOf (kmade p r),(kmade p r).l+1,(kmade p r).sum,(kmade p r).m⟩ (k+1):=by
 have hm:=h.m;have hl:=h.l;have ho:=h.o;have a1:=Int.emod_nonneg (r.up+3) (show(7:Int)≠0 by omega);have a2:=Int.emod_lt_of_pos (r.up+3) (show(0:Int)<7 by omega);have s1:=Int.emod_nonneg (r.skew+2) (show(5:Int)≠0 by omega);have s2:=Int.emod_lt_of_pos (r.skew+2) (show(0:Int)<5 by omega)
 have hs:(kmade p r).sum≤4294967295:=by first|exact crc.more_le _ _|exact crcMath.more_le _ _
 refine⟨⟨?_,?_⟩,⟨?_,?_⟩,⟨?_,?_⟩,⟨?_,?_⟩⟩
 ·dsimp only;omega
 ·dsimp only;omega
 ·dsimp only[kmade];omega
 ·dsimp only[kmade];push_cast;omega
 ·dsimp only[kmade];omega
 ·dsimp only[kmade];push_cast;omega
 ·dsimp only;omega
 ·dsimp only;omega
structure LS (wr w:World)(F G:List Nat)(d rd b7 b8 b10 Z:Nat)(b s l:Int)(D:Dk)(p:Ps)(F' G':List Nat):Prop where
 dd:Dd wr F' d G' rd D
 sub:∀ x∈F'++G',x∈F++G∨Z≤x
 c:Blk wr b7 29 #[.int .i64 b,.int .i64 s,.int .i64 l]
 p:Blk wr b8 24 #[.int .i64 p.s,.int .i64 p.o,.int .i64 p.l,.int .i64 p.v,.int .i64 p.m]
 q:Blk wr b10 24 #[.int .i64 0,.int .i64 0,.int .i64 0,.int .i64 0,.int .i64 0]
 kept:Kept (F++G) w wr
 size:Z≤wr.heap.size
theorem LS.keep {wr wr' w:World}{F G:List Nat}{d rd b7 b8 b10 Z:Nat}{b s l:Int}{D:Dk}{p:Ps}{F' G':List Nat}(h:LS wr w F G d rd b7 b8 b10 Z b s l D p F' G')(k:Kept [] wr wr'):LS wr' w F G d rd b7 b8 b10 Z b s l D p F' G':=
 ⟨h.dd.kept0 k,h.sub,k.blk h.c (by simp),k.blk h.p (by simp),k.blk h.q (by simp),h.kept.trans k (by simp),Nat.le_trans h.size k.size⟩
theorem recHeld {w0 W W':World}{b8:Nat}{v0 v1 v2 v3 v4 u0 u1 u2 u3 u4:Value}{ra:Addr}(h:Kept [] w0 W∧(W.cell? ⟨b8,0,none⟩=some v0∧W.cell? ⟨b8,1,none⟩=some v1∧W.cell? ⟨b8,2,none⟩=some v2∧W.cell? ⟨b8,3,none⟩=some v3∧W.cell? ⟨b8,4,none⟩=some v4)∧W.cell? ra=some u0∧W.cell? ⟨ra.block,ra.off+1,none⟩=some u1∧W.cell? ⟨ra.block,ra.off+2,none⟩=some u2∧W.cell? ⟨ra.block,ra.off+3,none⟩=some u3∧W.cell? ⟨ra.block,ra.off+4,none⟩=some u4)(k:Kept [] W W'):
  Kept [] w0 W'∧(W'.cell? ⟨b8,0,none⟩=some v0∧W'.cell? ⟨b8,1,none⟩=some v1∧W'.cell? ⟨b8,2,none⟩=some v2∧W'.cell? ⟨b8,3,none⟩=some v3∧W'.cell? ⟨b8,4,none⟩=some v4)∧W'.cell? ra=some u0∧W'.cell? ⟨ra.block,ra.off+1,none⟩=some u1∧W'.cell? ⟨ra.block,ra.off+2,none⟩=some u2∧W'.cell? ⟨ra.block,ra.off+3,none⟩=some u3∧W'.cell? ⟨ra.block,ra.off+4,none⟩=some u4:=by
 obtain⟨hk,⟨h0,h1,h2,h3,h4⟩,g0,g1,g2,g3,g4⟩:=h;exact⟨hk.trans k (by simp),⟨k.cell h0 (by simp),k.cell h1 (by simp),k.cell h2 (by simp),k.cell h3 (by simp),k.cell h4 (by simp)⟩,k.cell g0 (by simp),k.cell g1 (by simp),k.cell g2 (by simp),k.cell g3 (by simp),k.cell g4 (by simp)⟩

theorem klog_any (F G:List Nat)(d rd:Nat)(D:Dk)(p:Ps)(b s l r q:Int)(a:Nat)(A:Option Addr)(n c:Nat)(rs:List Kr)(vs:List Value)(w:World)(h:Dd w F d G rd D)(hR:Reads D)(hf:geom.Rf b s l r q)(hi:0≤p.s∧p.s≤s-1)(ha:2+2*r+4*q+p.s*l=(a:Int))(hn:(a:Int)+l≤D.n)(hac:D.acts≤100000)
  (hp:LogOk p 0) (hrs:rs.length=n) (hn12:n≤100) (hk:∀ x∈rs,x.ks.length≤6∧(-1000≤x.up∧x.up≤1000)∧(-1000≤x.skew∧x.skew≤1000)) (hv:Vals w (F++G) A vs) (hvs:KrIn w (F++G) rs vs):
  Calls Tryz.prog 14 #[.pointer (some ⟨d,0,none⟩),.pointer (some ⟨rd,0,none⟩),.agg #[.int .i64 b,.int .i64 s,.int .i64 l],.agg #[.int .i64 p.s,.int .i64 p.o,.int .i64 p.l,.int .i64 p.v,.int .i64 p.m],.slice A n c] w fun e w'=>e= .returned (.tuple #[(logD D a l p rs).2.val,.bool true])∧DdTo w w' F d G rd (logD D a l p rs).1:=by
 obtain⟨b7,hb7⟩:∃ b7,w.heap.size=b7:=⟨_,rfl⟩;obtain⟨w1,hw1⟩:∃ w1,w.alloc (.cells #[.int .i64 b,.int .i64 s,.int .i64 l] 29)=w1:=⟨_,rfl⟩;obtain⟨b8,hb8⟩:∃ b8,w1.heap.size=b8:=⟨_,rfl⟩;obtain⟨w2,hw2⟩:∃ w2,w1.alloc (.cells #[.int .i64 p.s,.int .i64 p.o,.int .i64 p.l,.int .i64 p.v,.int .i64 p.m] 24)=w2:=⟨_,rfl⟩;obtain⟨b10,hb10⟩:∃ b10,w2.heap.size=b10:=⟨_,rfl⟩;obtain⟨w3,hw3⟩:∃ w3,w2.alloc (.cells #[.int .i64 0,.int .i64 0,.int .i64 0,.int .i64 0,.int .i64 0] 24)=w3:=⟨_,rfl⟩
 have k1:Kept [] w w1:=by rw[←hw1];exact(Kept.refl [] w).alloc _
 have k2:Kept [] w1 w2:=by rw[←hw2];exact(Kept.refl [] w1).alloc _
 have k3:Kept [] w2 w3:=by rw[←hw3];exact(Kept.refl [] w2).alloc _
 have m1:Blk w1 b7 29 #[.int .i64 b,.int .i64 s,.int .i64 l]:=by rw[←hw1,←hb7];exact Blk.new w _ _
 have m2:Blk w2 b8 24 #[.int .i64 p.s,.int .i64 p.o,.int .i64 p.l,.int .i64 p.v,.int .i64 p.m]:=by rw[←hw2,←hb8];exact Blk.new w1 _ _
 have m3:Blk w3 b10 24 #[.int .i64 0,.int .i64 0,.int .i64 0,.int .i64 0,.int .i64 0]:=by rw[←hw3,←hb10];exact Blk.new w2 _ _
 have k23:=k2.trans k3 (by simp);have k13:=k1.trans k23 (by simp);obtain⟨Z,hZ⟩:∃ Z,w3.heap.size=Z:=⟨_,rfl⟩;have HSEP:=hide (show w.heap.size≤b7∧b7<b8∧b8<b10∧b10<Z by have a1:=m1.lt;have a2:=m2.lt;have a3:=m3.lt;omega);have HLT:=hide h.lt;have HLS:Hid (LS w3 w F G d rd b7 b8 b10 Z b s l D p F G):=hide ⟨h.kept k13 (by simp) (by simp),fun x hx=> .inl hx,k23.blk m1 (by simp),k3.blk m2 (by simp),m3,k13.mono (by simp),Nat.le_of_eq hZ.symm⟩;have hb8n:∀ i∈b8::(F++G),i∈F++G∨w.heap.size≤i:=fun i hi=>(List.mem_cons.1 hi).elim (fun h=>by have:=HSEP.out;exact .inr (by omega)) .inl;have HV:=hide ((hv.away hb8n).kept k13 (by simp));have HVS:=hide ((hvs.away hb8n).kept k13 (by simp));clear hb8n;have HR:=hide hR;have HF:=hide hf;have HI:=hide hi;have HA:=hide ha;have HN:=hide hn;have HP:=hide hp;have HRS:=hide hrs;have HKK:=hide hk;have hlb:24≤l∧l≤64:=hf.ok.2.2;have hsub:IntKind.i64.wrap (l-1)=l-1:=IntWalk.i64_in _ (by omega);have HRES:Seal (logD D a l p rs=logD D a l p (rs.drop 0)):=sealed rfl;obtain⟨RES,hRES⟩:∃ RES,logD D a l p rs=RES:=⟨_,rfl⟩;rw[hRES]at HRES ⊢;clear k1 k2 k3 m1 m2 m3 k23 k13 h hv hvs hR hf hi ha hn hp hrs hk hRES hZ;go_enter Tryz.func14,Tryz.ntmps14;go_wp2
 go_loopw [12] (fun i wr=>∃ (k:Nat) (E:Dk) (x:Ps) (F1 G1:List Nat),k≤n∧i= .int .i64 k∧Hid (LS wr w F G d rd b7 b8 b10 Z b s l E x F1 G1)∧Seal (RES=logD E a l x (rs.drop k))∧Hid (LogOk x k)∧Hid (x.s=p.s)∧Hid (Reads E∧E.n=D.n∧E.acts≤D.acts+8*k)∧Hid (Vals wr (b8::(F1++G1)) A vs)∧Hid (KrIn wr (b8::(F1++G1)) rs vs)) (fun i wr=>n-(intOf i).toNat)
 case atStart=>exact⟨0,D,p,F,G,Nat.zero_le _,rfl,HLS,HRES,HP,hide rfl,hide ⟨HR.out,rfl,by omega⟩,HV,HVS⟩
 case round=>
  obtain⟨k,E,x,F1,G1,hk,rfl,HLSr,HRr,HPr,HSr,HDr,HVr,HVSr⟩:=hrel;clear HLS HRES HP HV HVS HR
  by_cases hlt:k<n
  ·obtain⟨y,hy⟩:∃ y,rs[k]? = some y:=⟨_,List.getElem?_eq_getElem (by rw[HRS.out];exact hlt)⟩;obtain⟨Ka,kc,hKa,i0,i1,i2,i3,i4⟩:=HVSr.out.at_ hy;obtain⟨ad,rfl,hna,j0⟩:=HVr.out _ _ i0;obtain⟨_,e1,_,j1⟩:=HVr.out _ _ i1;cases e1;obtain⟨_,e2,_,j2⟩:=HVr.out _ _ i2;cases e2;obtain⟨_,e3,_,j3⟩:=HVr.out _ _ i3;cases e3;obtain⟨_,e4,_,j4⟩:=HVr.out _ _ i4;cases e4;rw[item.add_field _ _ _ (by omega)]at j1 j2 j3 j4;rw[show 5*k=k*5 by omega]at j0 j1 j2 j3 j4;have HKV:=hide hKa;have HYK:=hide (HKK.out y (List.mem_of_getElem? hy))
   have hdrop:rs.drop k=y::rs.drop (k+1):=by
    obtain⟨h1,h2⟩:=List.getElem?_eq_some_iff.1 hy;rw[List.drop_eq_getElem_cons h1,h2]
   have HDRP:=sealed hdrop;obtain⟨R,hRk⟩:∃ R,kmade x y=R:=⟨_,rfl⟩;have HRK:=sealed hRk;have hxm:=HPr.out.m;have hxl:=HPr.out.l;have HROK:Hid R.ok:=hide (by rw[←hRk];exact kmade_ok x y (by omega) (by omega) HYK.out.1);obtain⟨p0,p1,p2,p3,p4⟩:=cell5 HLSr.out.p;have HX0:=hide (show Kept [] wr wr.drew∧(wr.drew.cell? ⟨b8,0,none⟩=some (.int .i64 x.s)∧wr.drew.cell? ⟨b8,1,none⟩=some (.int .i64 x.o)∧wr.drew.cell? ⟨b8,2,none⟩=some (.int .i64 x.l)∧wr.drew.cell? ⟨b8,3,none⟩=some (.int .i64 x.v)∧wr.drew.cell? ⟨b8,4,none⟩=some (.int .i64 x.m))∧wr.drew.cell? (ad.add (k*5))=some (.slice Ka y.ks.length kc)∧wr.drew.cell? ⟨(ad.add (k*5)).block,(ad.add (k*5)).off+1,none⟩=some (.int .i64 y.fill)∧wr.drew.cell? ⟨(ad.add (k*5)).block,(ad.add (k*5)).off+2,none⟩=some (.int .i64 y.skew)∧wr.drew.cell? ⟨(ad.add (k*5)).block,(ad.add (k*5)).off+3,none⟩=some (.int .i64 y.twist)∧wr.drew.cell? ⟨(ad.add (k*5)).block,(ad.add (k*5)).off+4,none⟩=some (.int .i64 y.up)from⟨(Kept.refl [] wr).drew,⟨p0,p1,p2,p3,p4⟩,j0,j1,j2,j3,j4⟩);clear hy hKa i0 i1 i2 i3 i4 hna hdrop hRk p0 p1 p2 p3 p4;go_wp2
   go_cut [13]from 24 to 29 (fun p13 wx=>∃ (g13:Nat) (L:Option Addr) (m lc:Nat) (P:Option Addr) (kk pc:Nat),p13= .pointer (some ⟨g13,0,none⟩)∧Hid (Blk wx g13 111 #[.int .i64 R.m,.int .i64 R.l,.int .i64 R.p,.slice L m lc,.slice P kk pc])∧Hid (RcIn wx (F1++G1) L m P kk R)∧Hid (Kept [] wr wx)∧Hid (wr.heap.size≤g13))
   case first=>
    refine wp_region_noPanic ?_;refine wp_region_held_drew (S:=fun W=>Kept [] wr W∧(W.cell? ⟨b8,0,none⟩=some (.int .i64 x.s)∧W.cell? ⟨b8,1,none⟩=some (.int .i64 x.o)∧W.cell? ⟨b8,2,none⟩=some (.int .i64 x.l)∧W.cell? ⟨b8,3,none⟩=some (.int .i64 x.v)∧W.cell? ⟨b8,4,none⟩=some (.int .i64 x.m))∧W.cell? (ad.add (k*5))=some (.slice Ka y.ks.length kc)∧W.cell? ⟨(ad.add (k*5)).block,(ad.add (k*5)).off+1,none⟩=some (.int .i64 y.fill)∧W.cell? ⟨(ad.add (k*5)).block,(ad.add (k*5)).off+2,none⟩=some (.int .i64 y.skew)∧W.cell? ⟨(ad.add (k*5)).block,(ad.add (k*5)).off+3,none⟩=some (.int .i64 y.twist)∧W.cell? ⟨(ad.add (k*5)).block,(ad.add (k*5)).off+4,none⟩=some (.int .i64 y.up)) (by kernel_rfl) (by exact HX0.out) (fun hHeld=> ?_);refine tK 0 24 rfl ?_;refine tK 1 25 rfl ?_;refine tK 2 26 rfl ?_;refine tK 3 27 rfl ?_;refine tK 4 28 rfl ?_;refine next_two (i:=5) (j:=6) (o:=⟨some 29,_,_,_,_,_⟩) (o':=⟨some 13,_,_,_,_,_⟩) (by kernel_rfl) rfl (by rfl) rfl (by rfl) (fun K hK=> ?_) (fun K hK=> ?_)
    ·go_simp;refine(kmade_any x y Ka y.ks.length kc _ ((HKV.out.kept hHeld.1 (by simp)).mono (by simp)) rfl HYK.out.1 (by omega) (by omega) (by have:=HPr.out.v;omega) HYK.out.2.1 HYK.out.2.2).mono ?_;rintro e w5 ⟨L,m,lc,P,kk,pc,rfl,hfar,hk5⟩;rw[HRK.out]at hfar ⊢;have HX:=hide (recHeld hHeld hk5);refine hK _ _ (by exact HX.out) ?_;have hHeld:=HX.out;clear hK K
     try simp only[Act.put,pA,pB,pC]
     refine hO 6 (some 13) rfl fun K hK=> ?_;go_simp;have HX:=hide (recHeld hHeld ((Kept.refl [] _).alloc (.cells #[.int .i64 0,.int .i64 0,.int .i64 0,.slice none 0 0,.slice none 0 0] 111)));refine hK.out _ _ (by exact HX.out) (fun hHeld=>tS ?_);clear hK K;refine hO 7 none rfl fun K hK=> ?_
     first|(have hz7:=hk5.blk (Blk.new wr 111 #[.int .i64 0,.int .i64 0,.int .i64 0,.slice none 0 0,.slice none 0 0]).drew (by simp);obtain⟨z0,z1,z2,z3,z4⟩:=cell5 hz7;have f0:=hz7.frozen 0;have f1:=hz7.frozen 1;have f2:=hz7.frozen 2;have f3:=hz7.frozen 3;have f4:=hz7.frozen 4)|skip
     go_simp;have hff:∀ x∈F1++G1,x<wr.heap.size:=HLSr.out.dd.lt
     first|(have hkz:Kept [] wr.drew (w5.alloc (.cells #[.int .i64 R.m,.int .i64 R.l,.int .i64 R.p,.slice L m lc,.slice P kk pc] 111)):=hk5.trans ((Kept.refl [] w5).alloc (.cells #[.int .i64 R.m,.int .i64 R.l,.int .i64 R.p,.slice L m lc,.slice P kk pc] 111)) (by simp);have hbz:=Blk.new w5 111 #[.int .i64 R.m,.int .i64 R.l,.int .i64 R.p,.slice L m lc,.slice P kk pc];have hrz:=(hfar (F1++G1) hff).kept ((Kept.refl [] w5).alloc (.cells #[.int .i64 R.m,.int .i64 R.l,.int .i64 R.p,.slice L m lc,.slice P kk pc] 111)) (by simp))|(have hkz:=put5_kept (g:=wr.heap.size) (S:=[]) (.int .i64 R.m) (.int .i64 R.l) (.int .i64 R.p) (.slice L m lc) (.slice P kk pc) (((Kept.refl [] wr.drew).alloc (.cells #[.int .i64 0,.int .i64 0,.int .i64 0,.slice none 0 0,.slice none 0 0] 111)).trans hk5 (by simp)) (.inr (Nat.le_refl _));have hbz:=put5 (.int .i64 R.m) (.int .i64 R.l) (.int .i64 R.p) (.slice L m lc) (.slice P kk pc) hz7;have hrz:=((hfar (wr.heap.size::(F1++G1)) (List.forall_mem_cons.2 ⟨by simp,fun i hi=>by have:=hff i hi;simp;omega⟩)).kept (put5_kept (g:=wr.heap.size) (S:=[wr.heap.size]) (.int .i64 R.m) (.int .i64 R.l) (.int .i64 R.p) (.slice L m lc) (.slice P kk pc) (Kept.refl _ w5) (.inl (by simp))) (by simp)).less (S':=F1++G1) (fun i hi=>by simp only[List.mem_cons];exact .inr hi))
     have HX:=hide (recHeld HX0.out hkz);refine hK.out _ _ (by exact HX.out) (fun hHeld=>tS ?_);clear hK K;refine wpAnyH_done (by kernel_rfl) ?_ _;refine NoPanic.normal ?_;go_wp2_with fail;go_meet;exact⟨_,L,m,lc,P,kk,pc,rfl,hide hbz,hide hrz,hide HX.out.1,hide (by first|exact hk5.size|exact Nat.le_refl _)⟩
    ·go_simp;have HX:=hide (recHeld hHeld ((Kept.refl [] _).alloc (.cells #[.int .i64 0,.int .i64 0,.int .i64 0,.slice none 0 0,.slice none 0 0] 111)));refine hK _ _ (by exact HX.out) ?_;have hHeld:=HX.out;clear hK K
     try simp only[Act.put,pA,pB,pC]
     refine hO 5 (some 29) rfl fun K hK=> ?_;go_simp;refine(kmade_any x y Ka y.ks.length kc _ ((HKV.out.kept hHeld.1 (by simp)).mono (by simp)) rfl HYK.out.1 (by omega) (by omega) (by have:=HPr.out.v;omega) HYK.out.2.1 HYK.out.2.2).mono ?_;rintro e w5 ⟨L,m,lc,P,kk,pc,rfl,hfar,hk5⟩;rw[HRK.out]at hfar ⊢;have HX:=hide (recHeld hHeld hk5);refine hK.out _ _ (by exact HX.out) (fun hHeld=>tS ?_);clear hK K;refine hO 7 none rfl fun K hK=> ?_
     first|(have hz7:=hk5.blk (Blk.new wr 111 #[.int .i64 0,.int .i64 0,.int .i64 0,.slice none 0 0,.slice none 0 0]).drew (by simp);obtain⟨z0,z1,z2,z3,z4⟩:=cell5 hz7;have f0:=hz7.frozen 0;have f1:=hz7.frozen 1;have f2:=hz7.frozen 2;have f3:=hz7.frozen 3;have f4:=hz7.frozen 4)|skip
     go_simp;have hff:∀ x∈F1++G1,x<wr.heap.size:=HLSr.out.dd.lt
     first|(have hkz:Kept [] wr.drew (w5.alloc (.cells #[.int .i64 R.m,.int .i64 R.l,.int .i64 R.p,.slice L m lc,.slice P kk pc] 111)):=hk5.trans ((Kept.refl [] w5).alloc (.cells #[.int .i64 R.m,.int .i64 R.l,.int .i64 R.p,.slice L m lc,.slice P kk pc] 111)) (by simp);have hbz:=Blk.new w5 111 #[.int .i64 R.m,.int .i64 R.l,.int .i64 R.p,.slice L m lc,.slice P kk pc];have hrz:=(hfar (F1++G1) hff).kept ((Kept.refl [] w5).alloc (.cells #[.int .i64 R.m,.int .i64 R.l,.int .i64 R.p,.slice L m lc,.slice P kk pc] 111)) (by simp))|(have hkz:=put5_kept (g:=wr.heap.size) (S:=[]) (.int .i64 R.m) (.int .i64 R.l) (.int .i64 R.p) (.slice L m lc) (.slice P kk pc) (((Kept.refl [] wr.drew).alloc (.cells #[.int .i64 0,.int .i64 0,.int .i64 0,.slice none 0 0,.slice none 0 0] 111)).trans hk5 (by simp)) (.inr (Nat.le_refl _));have hbz:=put5 (.int .i64 R.m) (.int .i64 R.l) (.int .i64 R.p) (.slice L m lc) (.slice P kk pc) hz7;have hrz:=((hfar (wr.heap.size::(F1++G1)) (List.forall_mem_cons.2 ⟨by simp,fun i hi=>by have:=hff i hi;simp;omega⟩)).kept (put5_kept (g:=wr.heap.size) (S:=[wr.heap.size]) (.int .i64 R.m) (.int .i64 R.l) (.int .i64 R.p) (.slice L m lc) (.slice P kk pc) (Kept.refl _ w5) (.inl (by simp))) (by simp)).less (S':=F1++G1) (fun i hi=>by simp only[List.mem_cons];exact .inr hi))
     have HX:=hide (recHeld HX0.out hkz);refine hK.out _ _ (by exact HX.out) (fun hHeld=>tS ?_);clear hK K;refine wpAnyH_done (by kernel_rfl) ?_ _;refine NoPanic.normal ?_;go_wp2_with fail;go_meet;exact⟨_,L,m,lc,P,kk,pc,rfl,hide hbz,hide hrz,hide HX.out.1,hide (by first|exact hk5.size|exact Nat.le_refl _)⟩
   case rest=>
    obtain⟨g13,L,m,lc,P,kk,pc,rfl,HB,HRC,HKc,HGZ⟩:=hcut;have HFF:=hide (show ∀ x∈F1++G1,x<wr.heap.size from HLSr.out.dd.lt);have HLS2:=hide (HLSr.out.keep HKc.out);have HV2:=hide (HVr.out.kept HKc.out (by simp));have HVS2:=hide (HVSr.out.kept HKc.out (by simp));obtain⟨t0,t1,t2,t3,t4⟩:=cell5 HB.out;have hkk:=HRC.out.hk;have h7:=HROK.out.few;obtain⟨nn,hnn⟩:∃ nn,lenOf R=nn:=⟨_,rfl⟩
    have hnk:1+kk=nn:=by rw[←hnn];unfold lenOf;rw[hkk]
    have HNN:=sealed hnn
    have hdiv:(64*(nn:Int)).tdiv 64=(nn:Int):=by rw[Int.tdiv_eq_ediv_of_nonneg (by omega)];omega
    have hn7:nn≤7:=by omega
    have hn1:1≤nn:=by omega
    have HKKE:=hide hkk;clear HX0 HLSr HVr HVSr HKc HKV j0 j1 j2 j3 j4 hkk h7 hnn;go_wp2_with fail;refine(record.rbytes_far R L P m lc kk pc _ HRC.out.at_ HROK.out).mono ?_;rintro e w5 ⟨PB,cp,rfl,hcp,hbytes,hk5⟩;rw[hnk]at hcp ⊢;have HCP:=hide hcp;have HBY:=hide (hbytes (F1++G1) (HLS2.out.dd.lt));have HLS3:=hide (HLS2.out.keep hk5);have HV3:=hide (HV2.out.kept hk5 (by simp));have HVS3:=hide (HVS2.out.kept hk5 (by simp));have HB3:=hide (hk5.blk HB.out (by simp));obtain⟨u0,u1,u2,u3,u4⟩:=cell5 HB3.out;have HG13:=hide (show g13∉F1++G1 from fun hm=>by have h1:=HFF.out g13 hm;have h2:=HGZ.out;omega);clear t0 t1 t2 t3 t4 hcp hbytes hk5 HLS2 HV2 HVS2 HB HRC;obtain⟨p0,p1,p2,p3,p4⟩:=cell5 HLS3.out.p;obtain⟨c0,c1,c2⟩:w5.cell? ⟨b7,0,none⟩=some (.int .i64 b)∧w5.cell? ⟨b7,1,none⟩=some (.int .i64 s)∧w5.cell? ⟨b7,2,none⟩=some (.int .i64 l):=⟨HLS3.out.c.cell 0,HLS3.out.c.cell 1,HLS3.out.c.cell 2⟩;obtain⟨q0,q1,q2,q3,q4⟩:=cell5 HLS3.out.q;have hxo:=HPr.out.o
    by_cases hbig:l-1<x.o+(nn:Int)
    ·have tb:decide (l-1<x.o+(nn:Int))=true:=decide_eq_true hbig;have HRE:Seal (RES=(E,x)):=sealed (by rw[HRr.out,HDRP.out];unfold logD;rw[HRK.out,HNN.out,if_pos hbig]);have fq:=HLS3.out.q.frozen;have f0:=fq 0;have f1:=fq 1;have f2:=fq 2;have f3:=fq 3;have f4:=fq 4;have HBA:=hide (put5 (.int .i64 x.s) (.int .i64 x.o) (.int .i64 x.l) (.int .i64 x.v) (.int .i64 x.m) HLS3.out.q);have HKA:=hide (put5_kept (g:=b10) (S:=[b10]) (.int .i64 x.s) (.int .i64 x.o) (.int .i64 x.l) (.int .i64 x.v) (.int .i64 x.m) (Kept.refl [b10] w5) (.inl (by simp)));have HBN:=hide (show b10∉F1++G1 from fun hm=>(HLS3.out.sub _ hm).elim (fun h1=>by have:=HLT.out _ h1;have h2:=HSEP.out;omega) (fun h1=>by have h2:=HSEP.out;omega));clear fq u0 u1 u2 u3 u4;go_wp2;generalize (((((w5.setCell ⟨b10,0,none⟩ (.int .i64 x.s)).setCell ⟨b10,1,none⟩ (.int .i64 x.o)).setCell ⟨b10,2,none⟩ (.int .i64 x.l)).setCell ⟨b10,3,none⟩ (.int .i64 x.v)).setCell ⟨b10,4,none⟩ (.int .i64 x.m))=wA at HBA HKA ⊢;obtain⟨t0,t1,t2,t3,t4⟩:=cell5 HBA.out;refine bodyPost_ret (v:= .tuple #[.agg #[.int .i64 x.s,.int .i64 x.o,.int .i64 x.l,.int .i64 x.v,.int .i64 x.m],.bool true]) (by simp [results,Tryz.results14,go_sem,t0,t1,t2,t3,t4]) rfl ⟨by rw[HRE.out];rfl,?_⟩;rw[HRE.out];exact⟨F1,G1,HLS3.out.dd.kept HKA.out (fun i hi hm=>by simp at hm;subst hm;exact HBN.out (by simp [hi])) (fun i hi hm=>by simp at hm;subst hm;exact HBN.out (by simp [hi])),fun i hi=>(HLS3.out.sub i hi).imp id (fun h=>by have:=HSEP.out;omega),HLS3.out.kept.trans HKA.out (fun i hi=>by simp at hi;subst hi;have:=HSEP.out;exact .inr (by omega))⟩
    ·have tb:decide (l-1<x.o+(nn:Int))=false:=decide_eq_false hbig
     have HRE:Seal (RES=logD (putD E (a+x.o.toNat) R.bytes) a l ⟨x.s,x.o+nn,R.l+1,R.sum,R.m⟩ (rs.drop (k+1))):=sealed (by
      rw[HRr.out,HDRP.out]
      conv=>lhs;unfold logD
      rw[HRK.out,HNN.out,if_neg hbig])
     have HLO:Hid (LogOk ⟨x.s,x.o+nn,R.l+1,R.sum,R.m⟩ (k+1)):=hide (by
      have:=HPr.out.next (r:=y) l hlb.2 (by rw[HRK.out,HNN.out];exact hbig)
      rw[HRK.out,HNN.out]at this
      exact this)
     obtain⟨t,ht⟩:∃ t:Nat,(a:Int)+(x.o.toNat:Int)=(t:Int):=⟨a+x.o.toNat,by omega⟩;rw[ht]at HRE
     have hat:(a:Int)+x.o=(t:Int):=by omega
     have htn:t+nn≤E.n:=by have h1:=HDr.out.2.1;have h2:=HN.out;omega
     have ht4:t≤4096:=by have:=HDr.out.1.ok.n2;omega
     have hwt:IntKind.i64.wrap (t:Int)=(t:Int):=IntWalk.i64_in _ (by omega);have HTN:=hide htn;have HSP:=hide (show ∀ g,(g=b7∨g=b8∨g=b10)→g∉F1++G1 from fun g hg hm=>(HLS3.out.sub _ hm).elim (fun h1=>by have:=HLT.out _ h1;have h2:=HSEP.out;omega) (fun h1=>by have h2:=HSEP.out;omega));have HACT:=hide (show E.acts≤900000 from by have h1:=HDr.out.2.2;omega);have hRl:=HROK.out.2.1;clear ht htn;go_wp2;refine wp_region_noPanic ?_;refine wp_region_held_drew (S:=fun W=>Kept (F1++G1) w5 W∧(W.cell? ⟨b7,0,none⟩=some (.int .i64 b)∧W.cell? ⟨b7,1,none⟩=some (.int .i64 s)∧W.cell? ⟨b7,2,none⟩=some (.int .i64 l))∧W.cell? ⟨b8,0,none⟩=some (.int .i64 x.s)∧W.cell? ⟨b8,1,none⟩=some (.int .i64 x.o)∧W.cell? ⟨b8,2,none⟩=some (.int .i64 x.l)∧W.cell? ⟨b8,3,none⟩=some (.int .i64 x.v)∧W.cell? ⟨b8,4,none⟩=some (.int .i64 x.m)) (by kernel_rfl) (by exact⟨(Kept.refl _ w5).drew,⟨c0,c1,c2⟩,p0,p1,p2,p3,p4⟩) (fun hHeld=> ?_);refine tK 0 52 rfl ?_;refine tK 1 53 rfl ?_;refine tK 2 54 rfl ?_;refine tK 3 55 rfl ?_;refine tK 4 56 rfl ?_;refine tK 6 58 rfl ?_;refine tK 7 59 rfl ?_;refine tK 9 61 rfl ?_;refine hO 5 (some 57) rfl fun K hK=> ?_;go_simp;refine(geom.rsegAt_yes b s l r q x.s _ HF.out (by rw[HSr.out];exact HI.out)).mono ?_;rintro e w6 ⟨rfl,hk6⟩;rw[show 2+2*r+4*q+x.s*l=(a:Int)from by rw[HSr.out];exact HA.out];have HK6:=hide (show Kept [] w5 w6 from((Kept.refl [] w5).drew).trans hk6 (by simp));have HX6:=hide (show(fun W=>Kept (F1++G1) w5 W∧(W.cell? ⟨b7,0,none⟩=some (.int .i64 b)∧W.cell? ⟨b7,1,none⟩=some (.int .i64 s)∧W.cell? ⟨b7,2,none⟩=some (.int .i64 l))∧W.cell? ⟨b8,0,none⟩=some (.int .i64 x.s)∧W.cell? ⟨b8,1,none⟩=some (.int .i64 x.o)∧W.cell? ⟨b8,2,none⟩=some (.int .i64 x.l)∧W.cell? ⟨b8,3,none⟩=some (.int .i64 x.v)∧W.cell? ⟨b8,4,none⟩=some (.int .i64 x.m)) w6 from⟨HK6.out.mono (by simp),⟨hk6.cell c0 (by simp),hk6.cell c1 (by simp),hk6.cell c2 (by simp)⟩,hk6.cell p0 (by simp),hk6.cell p1 (by simp),hk6.cell p2 (by simp),hk6.cell p3 (by simp),hk6.cell p4 (by simp)⟩)
     refine hK.out _ _ (by exact HX6.out) (fun hHeld=>tS ?_);clear hK K;refine tK 8 60 rfl ?_;refine hO 10 (some 62) rfl fun K hK=> ?_;go_simp;refine(put_any F1 G1 d rd E t PB (64*nn) cp nn R.bytes _ (HLS3.out.dd.kept0 HK6.out) HDr.out.1.live HTN.out (by omega) HACT.out (by rw[Rc.bytes_len HROK.out,←HNN.out];rfl) rfl HCP.out (HBY.out.kept HK6.out (by simp))).mono ?_;rintro e w7 ⟨rfl,F2,G2,h1,h2,h3⟩;have HH1:=hide h1;have HH2:=hide h2;have HH3:=hide h3;have HX7:=hide (show(fun W=>Kept (F1++G1) w5 W∧(W.cell? ⟨b7,0,none⟩=some (.int .i64 b)∧W.cell? ⟨b7,1,none⟩=some (.int .i64 s)∧W.cell? ⟨b7,2,none⟩=some (.int .i64 l))∧W.cell? ⟨b8,0,none⟩=some (.int .i64 x.s)∧W.cell? ⟨b8,1,none⟩=some (.int .i64 x.o)∧W.cell? ⟨b8,2,none⟩=some (.int .i64 x.l)∧W.cell? ⟨b8,3,none⟩=some (.int .i64 x.v)∧W.cell? ⟨b8,4,none⟩=some (.int .i64 x.m)) w7 from⟨HX6.out.1.trans h3 (fun i hi=> .inl hi),⟨h3.cell HX6.out.2.1.1 (HSP.out _ (.inl rfl)),h3.cell HX6.out.2.1.2.1 (HSP.out _ (.inl rfl)),h3.cell HX6.out.2.1.2.2 (HSP.out _ (.inl rfl))⟩,h3.cell HX6.out.2.2.1 (HSP.out _ (.inr (.inl rfl))),h3.cell HX6.out.2.2.2.1 (HSP.out _ (.inr (.inl rfl))),h3.cell HX6.out.2.2.2.2.1 (HSP.out _ (.inr (.inl rfl))),h3.cell HX6.out.2.2.2.2.2.1 (HSP.out _ (.inr (.inl rfl))),h3.cell HX6.out.2.2.2.2.2.2 (HSP.out _ (.inr (.inl rfl)))⟩);refine hK.out _ _ (by exact HX7.out) (fun hHeld=>tS ?_);clear hK K;refine tK 11 63 rfl ?_;refine wpAnyH_done (by kernel_rfl) ?_ _;refine NoPanic.normal ?_;have HK57:=hide (HK6.out.mono (S':=F1++G1) (by simp))
     have hb7:=HK57.out.trans HH3.out (fun i hi=> .inl hi);have HB7:=hide hb7;obtain⟨u0,u1,u2,u3,u4⟩:=cell5 (hb7.blk HB3.out HG13.out);have HP7:=hide (hb7.blk HLS3.out.p (HSP.out _ (.inr (.inl rfl))));obtain⟨p0,p1,p2,p3,p4⟩:=cell5 HP7.out;have fp:=HP7.out.frozen;have f0:=fp 0;have f1:=fp 1;have f2:=fp 2;have f3:=fp 3;have f4:=fp 4;have HBA:=hide (put5 (.int .i64 x.s) (.int .i64 (x.o+(nn:Int))) (.int .i64 (R.l+1)) (.int .i64 (R.sum:Int)) (.int .i64 R.m) HP7.out);have HKA:=hide (put5_kept (g:=b8) (S:=[b8]) (.int .i64 x.s) (.int .i64 (x.o+(nn:Int))) (.int .i64 (R.l+1)) (.int .i64 (R.sum:Int)) (.int .i64 R.m) (Kept.refl [b8] w7) (.inl (by simp)));clear hHeld hb7 fp;go_wp2;generalize (((((w7.setCell ⟨b8,0,none⟩ (.int .i64 x.s)).setCell ⟨b8,1,none⟩ (.int .i64 (x.o+(nn:Int)))).setCell ⟨b8,2,none⟩ (.int .i64 (R.l+1))).setCell ⟨b8,3,none⟩ (.int .i64 (R.sum:Int))).setCell ⟨b8,4,none⟩ (.int .i64 R.m))=wA at HBA HKA ⊢;obtain⟨e1,e2,e3,_,_⟩:=put_reads HDr.out.1 t R.bytes nn HTN.out (by rw[Rc.bytes_len HROK.out,←HNN.out];rfl);have hz6:Z≤w6.heap.size:=Nat.le_trans HLS3.out.size HK6.out.size;have hsep:=HSEP.out;have hb8:b8∉F2++G2:=fun hm=>(HH2.out _ hm).elim (fun h=>HSP.out b8 (.inr (.inl rfl)) h) (fun h=>by omega);have hsub2:∀ i∈F2++G2,i∈F++G∨Z≤i:=fun i hi=>(HH2.out i hi).elim (HLS3.out.sub i) (fun h=> .inr (by omega));have hacts:=HDr.out.2.2;have hen:=HDr.out.2.1;have hV4:Vals wA (b8::(F2++G2)) (some ad) vs:=((((HV3.out.kept HK6.out (by simp)).away (S':=(F1++G1)++(b8::(F2++G2))) (fun i hi=>(List.mem_append.1 hi).elim (fun h=> .inl (by simp only[List.mem_cons];exact .inr h)) (fun h=>(List.mem_cons.1 h).elim (fun h=> .inl (by simp [h])) (fun h=>(HH2.out i h).imp (fun h=>by simp only[List.mem_cons];exact .inr h) id)))).kept HH3.out (fun i hi=>List.mem_append_left _ hi)).mono (fun i hi=>List.mem_append_right _ hi)).kept HKA.out (by simp)
     have hVS4:KrIn wA (b8::(F2++G2)) rs vs:=((((HVS3.out.kept HK6.out (by simp)).away (S':=(F1++G1)++(b8::(F2++G2))) (fun i hi=>(List.mem_append.1 hi).elim (fun h=> .inl (by simp only[List.mem_cons];exact .inr h)) (fun h=>(List.mem_cons.1 h).elim (fun h=> .inl (by simp [h])) (fun h=>(HH2.out i h).imp (fun h=>by simp only[List.mem_cons];exact .inr h) id)))).kept HH3.out (fun i hi=>List.mem_append_left _ hi)).away (S':=b8::(F2++G2)) (fun i hi=> .inl (List.mem_append_right _ hi))).kept HKA.out (by simp);refine⟨⟨k+1,putD E t R.bytes,⟨x.s,x.o+nn,R.l+1,R.sum,R.m⟩,F2,G2,by omega,by go_num,hide ⟨HH1.out.kept HKA.out (fun i hi hm=>by simp at hm;subst hm;exact hb8 (by simp [hi])) (fun i hi hm=>by simp at hm;subst hm;exact hb8 (by simp [hi])),hsub2,HKA.out.blk (HB7.out.blk HLS3.out.c (HSP.out _ (.inl rfl))) (by simp;omega),HBA.out,HKA.out.blk (HB7.out.blk HLS3.out.q (HSP.out _ (.inr (.inr rfl)))) (by simp;omega),(HLS3.out.kept.trans HB7.out (fun i hi=>(HLS3.out.sub i hi).imp id (fun h=>by omega))).trans HKA.out (fun i hi=>by simp at hi;subst hi;exact .inr (by omega)),Nat.le_trans (Nat.le_trans HLS3.out.size HB7.out.size) HKA.out.size⟩,HRE,HLO,HSr,hide ⟨e1,by omega,by omega⟩,hide hV4,hide hVS4⟩,by simp [intOf];omega⟩
  ·obtain rfl:k=n:=by omega
   have HRE:Seal (RES=(E,x)):=sealed (by rw[HRr.out,List.drop_eq_nil_of_le (by rw[HRS.out];exact Nat.le_refl _)];rfl);obtain⟨p0,p1,p2,p3,p4⟩:=cell5 HLSr.out.p;obtain⟨q0,q1,q2,q3,q4⟩:=cell5 HLSr.out.q;have fq:=HLSr.out.q.frozen;have f0:=fq 0;have f1:=fq 1;have f2:=fq 2;have f3:=fq 3;have f4:=fq 4;have HBA:=hide (put5 (.int .i64 x.s) (.int .i64 x.o) (.int .i64 x.l) (.int .i64 x.v) (.int .i64 x.m) HLSr.out.q);have HKA:=hide (put5_kept (g:=b10) (S:=[b10]) (.int .i64 x.s) (.int .i64 x.o) (.int .i64 x.l) (.int .i64 x.v) (.int .i64 x.m) (Kept.refl [b10] wr) (.inl (by simp)));have HBN:=hide (show b10∉F1++G1 from fun hm=>(HLSr.out.sub _ hm).elim (fun h1=>by have:=HLT.out _ h1;have h2:=HSEP.out;omega) (fun h1=>by have h2:=HSEP.out;omega));clear fq;go_wp2;generalize (((((wr.setCell ⟨b10,0,none⟩ (.int .i64 x.s)).setCell ⟨b10,1,none⟩ (.int .i64 x.o)).setCell ⟨b10,2,none⟩ (.int .i64 x.l)).setCell ⟨b10,3,none⟩ (.int .i64 x.v)).setCell ⟨b10,4,none⟩ (.int .i64 x.m))=wA at HBA HKA ⊢;obtain⟨t0,t1,t2,t3,t4⟩:=cell5 HBA.out;refine bodyPost_ret (v:= .tuple #[.agg #[.int .i64 x.s,.int .i64 x.o,.int .i64 x.l,.int .i64 x.v,.int .i64 x.m],.bool true]) (by simp [results,Tryz.results14,go_sem,t0,t1,t2,t3,t4]) rfl ⟨by rw[HRE.out];rfl,?_⟩;rw[HRE.out];exact⟨F1,G1,HLSr.out.dd.kept HKA.out (fun i hi hm=>by simp at hm;subst hm;exact HBN.out (by simp [hi])) (fun i hi hm=>by simp at hm;subst hm;exact HBN.out (by simp [hi])),fun i hi=>(HLSr.out.sub i hi).imp id (fun h=>by have:=HSEP.out;omega),HLSr.out.kept.trans HKA.out (fun i hi=>by simp at hi;subst hi;have:=HSEP.out;exact .inr (by omega))⟩
end Go.Proofs.YtjkmahmoclobmaaGreat.sc
