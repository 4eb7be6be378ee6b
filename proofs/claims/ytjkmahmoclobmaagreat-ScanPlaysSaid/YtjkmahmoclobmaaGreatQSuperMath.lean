import Derived.Test.YtjkmahmoclobmaaGreatQFillCore
import Derived.Test.YtjkmahmoclobmaaGreatQCrcCore
namespace Go.Proofs.YtjkmahmoclobmaaGreat.super
open Go.RowKit mem row rowBack fill crc crcMath
structure Su where
 (k s l i m:Int)
deriving DecidableEq
def Su.zero:Su:=⟨0,0,0,0,0⟩
def Su.cfg (S:Su):Bool:=decide (1≤S.k∧S.k≤64)&&(decide (8≤S.s∧S.s≤32)&&decide (24≤S.l∧S.l≤64))
def Su.may (S:Su):Bool:=S.cfg&&(decide (0≤S.i∧S.i≤2147483647)&&decide (1≤S.m∧S.m≤2147483647))
theorem Su.may_iff (S:Su):S.may=true↔(1≤S.k∧S.k≤64)∧(8≤S.s∧S.s≤32)∧(24≤S.l∧S.l≤64)∧(0≤S.i∧S.i≤2147483647)∧(1≤S.m∧S.m≤2147483647):=by
 simp only[Su.may,Su.cfg,Bool.and_eq_true,decide_eq_true_eq,and_assoc]
def Su.head (S:Su):List UInt8:=([75,83]++bytesOf 1 [S.k,S.s,S.l])++bytesOf 4 [S.i,S.m]
theorem Su.head_len (S:Su):S.head.length=13:=by simp [Su.head,bytesOf_length]
def Su.body (S:Su):List UInt8:=S.head++List.replicate 47 0
theorem Su.body_len (S:Su):S.body.length=60:=by simp [Su.body,Su.head_len]
def sumOf (b:List UInt8):List UInt8:=bytesOf 4 [(more 0 b:Int)]
theorem sumOf_len (b:List UInt8):(sumOf b).length=4:=by simp [sumOf,bytesOf_length]
def Su.bytes (S:Su):List UInt8:=S.body++sumOf S.body
theorem Su.bytes_len (S:Su):S.bytes.length=64:=by simp [Su.bytes,Su.body_len,sumOf_len]

theorem fits1 (n:Int)(h:0≤n)(h2:n<256):fitsW (1:Nat) n=true:=by simp [fitsW];omega
theorem fits4 (n:Int)(h:0≤n)(h2:n<4294967296):fitsW (4:Nat) n=true:=by simp [fitsW];omega
theorem sum_fits (b:List UInt8):fitsW (4:Nat) (more 0 b:Int)=true:=fits4 _ (by omega) (by have:=Nat.sub_le 4294967295 (crcBits (4294967295-0) (allBits b));unfold more;omega)
theorem sumOf_inj (a b:List UInt8)(h:sumOf a=sumOf b):more 0 a=more 0 b:=by
 have e:=congrArg numOf h
 unfold sumOf at e
 rw[num_bytes 4 (by simp) _ (sum_fits a),num_bytes 4 (by simp) _ (sum_fits b)]at e
 omega
def r0 (bs:List UInt8):Row:=(Row.take ⟨bs,0⟩ 2).2.2
def r1 (bs:List UInt8):Row:=((r0 bs).get 1).2.2
def r2 (bs:List UInt8):Row:=((r1 bs).get 1).2.2
def r3 (bs:List UInt8):Row:=((r2 bs).get 1).2.2
def r4 (bs:List UInt8):Row:=((r3 bs).get 4).2.2
def readOf (bs:List UInt8):Su:=⟨((r0 bs).get 1).1,((r1 bs).get 1).1,((r2 bs).get 1).1,((r3 bs).get 4).1,((r4 bs).get 4).1⟩

theorem take2 (bs:List UInt8)(h:2≤bs.length):r0 bs=⟨bs,2⟩:=by
 unfold r0 Row.take
 rw[if_pos ⟨by omega,by simp;omega⟩]
 rfl

theorem read_bytes (S:Su)(h:S.may=true):readOf S.bytes=S:=by
 obtain⟨hk,hs,hl,hi,hm⟩:=(S.may_iff).1 h
 obtain⟨k,s,l,i,m⟩:=S
 simp only at hk hs hl hi hm
 have f1:=fits1 k (by omega) (by omega)
 have f2:=fits1 s (by omega) (by omega)
 have f3:=fits1 l (by omega) (by omega)
 have f4:=fits4 i (by omega) (by omega)
 have f5:=fits4 m (by omega) (by omega)
 generalize hb:Su.bytes ⟨k,s,l,i,m⟩=bs
 obtain⟨z,hz⟩:∃ z,bs=[75,83]++(bytesOf 1 [k]++(bytesOf 1 [s]++(bytesOf 1 [l]++(bytesOf 4 [i]++(bytesOf 4 [m]++z))))):=
  ⟨List.replicate 47 0++sumOf (Su.body ⟨k,s,l,i,m⟩),by
   rw[←hb]
   simp only[Su.bytes,Su.body,Su.head]
   rw[bytesOf_cons 1 (by omega) k [s,l],bytesOf_cons 1 (by omega) s [l],bytesOf_cons 4 (by omega) i [m]]
   simp only[List.append_assoc,List.cons_append,List.nil_append]⟩
 have l1:∀ n:Int,(bytesOf 1 [n]).length=1:=fun n=>by simp [bytesOf_length]
 have l4:∀ n:Int,(bytesOf 4 [n]).length=4:=fun n=>by simp [bytesOf_length]
 have e0:r0 bs=⟨bs,2⟩:=take2 bs (by rw[hz];simp)
 have g1:Row.get ⟨bs,2⟩ 1=(k,true,⟨bs,3⟩):=by
  have:=get_here [75,83] (bytesOf 1 [s]++(bytesOf 1 [l]++(bytesOf 4 [i]++(bytesOf 4 [m]++z)))) 1 2 k (by simp) f1 rfl
  rw[←hz]at this
  exact this
 have g2:Row.get ⟨bs,3⟩ 1=(s,true,⟨bs,4⟩):=by
  have:=get_here ([75,83]++bytesOf 1 [k]) (bytesOf 1 [l]++(bytesOf 4 [i]++(bytesOf 4 [m]++z))) 1 3 s (by simp) f2 (by simp [l1])
  rw[List.append_assoc,←hz]at this
  exact this
 have g3:Row.get ⟨bs,4⟩ 1=(l,true,⟨bs,5⟩):=by
  have:=get_here ([75,83]++bytesOf 1 [k]++bytesOf 1 [s]) (bytesOf 4 [i]++(bytesOf 4 [m]++z)) 1 4 l (by simp) f3 (by simp [l1])
  simp only[List.append_assoc]at this
  rw[←hz]at this
  exact this
 have g4:Row.get ⟨bs,5⟩ 4=(i,true,⟨bs,9⟩):=by
  have:=get_here ([75,83]++bytesOf 1 [k]++bytesOf 1 [s]++bytesOf 1 [l]) (bytesOf 4 [m]++z) 4 5 i (by simp) f4 (by simp [l1])
  simp only[List.append_assoc]at this
  rw[←hz]at this
  exact this
 have g5:Row.get ⟨bs,9⟩ 4=(m,true,⟨bs,13⟩):=by
  have:=get_here ([75,83]++bytesOf 1 [k]++bytesOf 1 [s]++bytesOf 1 [l]++bytesOf 4 [i]) z 4 9 m (by simp) f5 (by simp [l1,l4])
  simp only[List.append_assoc]at this
  rw[←hz]at this
  exact this
 have e1:r1 bs=⟨bs,3⟩:=by unfold r1;rw[e0,g1]
 have e2:r2 bs=⟨bs,4⟩:=by unfold r2;rw[e1,g2]
 have e3:r3 bs=⟨bs,5⟩:=by unfold r3;rw[e2,g3]
 have e4:r4 bs=⟨bs,9⟩:=by unfold r4;rw[e3,g4]
 unfold readOf
 rw[e0,e1,e2,e3,e4,g1,g2,g3,g4,g5]

theorem get_bd1 (R:Row):0≤(R.get 1).1∧(R.get 1).1<256:=by
 have h:=get_bd R 1
 rwa [show(256:Int)^1=256 by decide]at h
theorem get_bd4 (R:Row):0≤(R.get 4).1∧(R.get 4).1<4294967296:=by
 have h:=get_bd R 4
 rwa [show(256:Int)^4=4294967296 by decide]at h
def encode (S:Su):List UInt8×Int:=if S.may=true then(S.bytes,0)else([],1)
def decode (bs:List UInt8):Su×Int:=if (readOf bs).may=true∧(readOf bs).bytes=bs then(readOf bs,0)else(Su.zero,2)
theorem decode_bytes (S:Su)(h:S.may=true):decode S.bytes=(S,0):=by
 unfold decode
 rw[read_bytes S h,if_pos ⟨h,rfl⟩]
theorem decode_or (bs:List UInt8):(∃ S:Su,S.may=true∧S.bytes=bs∧decode bs=(S,0))∨decode bs=(Su.zero,2):=by
 by_cases h:(readOf bs).may=true∧(readOf bs).bytes=bs
 ·exact .inl ⟨readOf bs,h.1,h.2,if_pos h⟩
 ·exact .inr (if_neg h)
theorem decode_no (bs:List UInt8)(h:∀ S:Su,S.may=true→S.bytes≠bs):decode bs=(Su.zero,2):=by
 rcases decode_or bs with⟨S,h1,h2,_⟩|h3
 ·exact absurd h2 (h S h1)
 ·exact h3
theorem bytes_start (S:Su):S.bytes[0]? = some 75∧S.bytes[1]? = some 83:=by
 simp only[Su.bytes,Su.body,Su.head,List.append_assoc,List.cons_append]
 exact⟨rfl,rfl⟩
end Go.Proofs.YtjkmahmoclobmaaGreat.super
