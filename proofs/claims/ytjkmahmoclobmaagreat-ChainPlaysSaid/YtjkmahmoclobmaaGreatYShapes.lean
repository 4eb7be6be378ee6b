import Derived.Test.YtjkmahmoclobmaaGreatYFillCore
import Derived.Test.YtjkmahmoclobmaaGreatYCrcCore
import Derived.Test.YtjkmahmoclobmaaGreatYAlike
import Derived.ProofKit
import Derived.OpenShut
import Derived.ShutString
import Derived.ChangeOld
import Derived.Below
import GoSem.ClaimWide
namespace Go.Proofs.YtjkmahmoclobmaaGreat.super
open Go.RowKit mem row rowBack fill crc crcMath
def sumOf (b:List UInt8):List UInt8:=bytesOf 4 [(more 0 b:Int)]
theorem sumOf_len (b:List UInt8):(sumOf b).length=4:=by simp [sumOf,bytesOf_length]
theorem fits1 (n:Int)(h:0≤n)(h2:n<256):fitsW (1:Nat) n=true:=by simp [fitsW];omega
theorem fits4 (n:Int)(h:0≤n)(h2:n<4294967296):fitsW (4:Nat) n=true:=by simp [fitsW];omega
theorem sum_fits (b:List UInt8):fitsW (4:Nat) (more 0 b:Int)=true:=fits4 _ (by omega) (by have:=Nat.sub_le 4294967295 (crcBits (4294967295-0) (allBits b));unfold more;omega)
def r0 (bs:List UInt8):Row:=(Row.take ⟨bs,0⟩ 2).2.2
def r1 (bs:List UInt8):Row:=((r0 bs).get 1).2.2
def r2 (bs:List UInt8):Row:=((r1 bs).get 1).2.2
theorem take2 (bs:List UInt8)(h:2≤bs.length):r0 bs=⟨bs,2⟩:=by
 unfold r0 Row.take;rw[if_pos ⟨by omega,by simp;omega⟩]
 rfl

end Go.Proofs.YtjkmahmoclobmaaGreat.super
namespace Go.Proofs.YtjkmahmoclobmaaGreat.item
open Go.RowKit mem row rowBack fill
structure It where
 (k b c v:Int)
deriving DecidableEq
def It.zero:It:=⟨0,0,0,0⟩
def It.ok (i:It):Prop:=
 ((i.k=1∨i.k=5)∧(0≤i.b∧i.b≤63)∧i.c=0∧i.v=0)∨
 ((i.k=2∨i.k=6)∧(0≤i.b∧i.b≤63)∧(1≤i.c∧i.c≤64-i.b)∧i.v=0)∨
 (i.k=3∧i.b=0∧i.c=0∧(1≤i.v∧i.v≤2147483647))∨
 (i.k=4∧(0≤i.b∧i.b≤63)∧i.c=0∧(1≤i.v∧i.v≤4095))∨
 (i.k=7∧i.b=0∧i.c=0∧(0≤i.v∧i.v≤31))
instance (i:It):Decidable i.ok:=by unfold It.ok;infer_instance
def It.may (i:It):Bool:=decide i.ok
theorem It.may_iff (i:It):i.may=true↔i.ok:=by simp [It.may]
theorem It.may_no (i:It):i.may=false↔¬i.ok:=by simp [It.may]
def It.loaded (i:It):Bool:=i.may&&decide (i.k=1∨i.k=4∨i.k=5)

def It.val (i:It):Value:= .agg #[.int .i64 i.k,.int .i64 i.b,.int .i64 i.c,.int .i64 i.v]
def It.vals (i:It):List Value:=[.int .i64 i.k,.int .i64 i.b,.int .i64 i.c,.int .i64 i.v]
def It.bytes (i:It):List UInt8:=bytesOf 1 [i.k,i.b,i.c]++bytesOf 4 [i.v]
theorem It.bytes_len (i:It):i.bytes.length=7:=by simp [It.bytes,bytesOf_length]

theorem It.fits (i:It)(h:i.ok):(∀ m∈[i.k,i.b,i.c],fitsW (1:Nat) m=true)∧∀ m∈[i.v],fitsW (4:Nat) m=true:=by
 unfold It.ok at h
 constructor
 ·intro m hm;simp only[List.mem_cons,List.not_mem_nil,or_false]at hm;simp only[fitsW,decide_eq_true_eq]
  have:(256:Int)^((1:Nat):Int).toNat=256:=by decide
  rw[this]
  rcases hm with rfl|rfl|rfl<;>omega
 ·intro m hm;simp only[List.mem_cons,List.not_mem_nil,or_false]at hm;simp only[fitsW,decide_eq_true_eq]
  have:(256:Int)^((4:Nat):Int).toNat=4294967296:=by decide
  rw[this];subst hm
  omega
def laid (l:List It):List UInt8:=l.flatMap It.bytes
def valsOf (l:List It):List Value:=l.flatMap It.vals
theorem laid_cons (i:It)(l:List It):laid (i::l)=i.bytes++laid l:=rfl
theorem laid_append (a b:List It):laid (a++b)=laid a++laid b:=by simp [laid]
theorem laid_snoc (a:List It)(i:It):laid (a++[i])=laid a++i.bytes:=by simp [laid]
theorem laid_len (l:List It):(laid l).length=7*l.length:=by
 induction l with
 | nil=>rfl
 | cons i l ih=>rw[laid_cons,List.length_append,ih,It.bytes_len,List.length_cons];omega
theorem valsOf_append (a b:List It):valsOf (a++b)=valsOf a++valsOf b:=by simp [valsOf]
theorem valsOf_len (l:List It):(valsOf l).length=4*l.length:=by
 induction l with
 | nil=>rfl
 | cons i l ih=>unfold valsOf at ih ⊢;rw[List.flatMap_cons,List.length_append,ih,List.length_cons];simp [It.vals];omega
theorem valsOf_at (l:List It)(j:Nat)(i:It)(h:l[j]? = some i)(t:Nat)(ht:t<4):(valsOf l)[4*j+t]? = i.vals[t]? := by
 have hj:=(List.getElem?_eq_some_iff.1 h).1
 have e:l=l.take j++([i]++l.drop (j+1)):=by
  have h2:=(List.getElem?_eq_some_iff.1 h).2;rw[←h2]
  simp
 conv=>lhs;rw[e,valsOf_append,valsOf_append]
 rw[List.getElem?_append_right (by rw[valsOf_len,List.length_take];omega),valsOf_len,List.length_take,Nat.min_eq_left (by omega),Nat.add_sub_cancel_left,
  List.getElem?_append_left (by rw[valsOf_len];simp;omega)]
 simp [valsOf]
def itAt (bs:List UInt8)(p:Nat):It:=⟨numOf ((bs.drop p).take 1),numOf ((bs.drop (p+1)).take 1),numOf ((bs.drop (p+2)).take 1),numOf ((bs.drop (p+3)).take 4)⟩
theorem get_at_ok (bs:List UInt8)(p:Nat)(x:Nat)(hx:isW (x:Int)=true)(h:p+x≤bs.length):Row.get ⟨bs,p⟩ x=(numOf ((bs.drop p).take x),true,⟨bs,p+x⟩):=by
 unfold Row.get;rw[if_pos ⟨hx,by rw[Int.toNat_natCast];exact h⟩,Int.toNat_natCast]
def itemsOf (bs:List UInt8):List It:=(List.range (bs.length/7)).map fun j=>itAt bs (7*j)
theorem itemsOf_len (bs:List UInt8):(itemsOf bs).length=bs.length/7:=by simp [itemsOf]
theorem itemsOf_at (bs:List UInt8)(j:Nat)(h:j<bs.length/7):(itemsOf bs)[j]? = some (itAt bs (7*j)):=by simp [itemsOf,h]
theorem one_num (x:Nat)(hx:x=1∨x=2∨x=4)(a b:List UInt8)(n:Int)(p:Nat)(hf:fitsW x n=true)(hp:a.length=p):numOf (((a++(bytesOf x [n]++b)).drop p).take x)=n:=by
 subst hp;rw[List.drop_left,List.take_left' (by simp [bytesOf_length]),num_bytes x hx n hf]
theorem itAt_laid (a b:List UInt8)(i:It)(p:Nat)(h:i.ok)(hp:a.length=p):itAt (a++(i.bytes++b)) p=i:=by
 obtain⟨f1,f4⟩:=i.fits h;obtain⟨k,bl,c,v⟩:=i
 have l1:∀ n:Int,(bytesOf 1 [n]).length=1:=fun n=>by simp [bytesOf_length]
 have e:a++((⟨k,bl,c,v⟩:It).bytes++b)=a++(bytesOf 1 [k]++(bytesOf 1 [bl]++(bytesOf 1 [c]++(bytesOf 4 [v]++b)))):=by
  unfold It.bytes;rw[bytesOf_cons 1 (by omega) k [bl,c],bytesOf_cons 1 (by omega) bl [c]];simp only[List.append_assoc]
 rw[e];have h1:=one_num 1 (by omega) a (bytesOf 1 [bl]++(bytesOf 1 [c]++(bytesOf 4 [v]++b))) k p (f1 k (by simp)) hp;have h2:=one_num 1 (by omega) (a++bytesOf 1 [k]) (bytesOf 1 [c]++(bytesOf 4 [v]++b)) bl (p+1) (f1 bl (by simp)) (by simp [l1,hp]);have h3:=one_num 1 (by omega) (a++bytesOf 1 [k]++bytesOf 1 [bl]) (bytesOf 4 [v]++b) c (p+2) (f1 c (by simp)) (by simp [l1,hp]);have h4:=one_num 4 (by omega) (a++bytesOf 1 [k]++bytesOf 1 [bl]++bytesOf 1 [c]) b v (p+3) (f4 v (by simp)) (by simp [l1,hp]);simp only[List.append_assoc]at h1 h2 h3 h4;unfold itAt;rw[h1,h2,h3,h4]
def allMay (l:List It):Prop:=∀ i∈l,i.may=true
instance (l:List It):Decidable (allMay l):=by unfold allMay;infer_instance
theorem itemsOf_laid (l:List It)(h:allMay l):itemsOf (laid l)=l:=by
 have hl:=laid_len l
 apply List.ext_getElem?
 intro j
 by_cases hj:j<l.length
 ·rw[itemsOf_at _ j (by rw[hl];omega),List.getElem?_eq_getElem hj]
  congr 1
  have e:laid l=laid (l.take j)++((l[j]).bytes++laid (l.drop (j+1))):=by
   rw[←laid_cons,←laid_append]
   congr 1
   simp
  rw[e];exact itAt_laid _ _ _ _ ((It.may_iff _).1 (h _ (List.getElem_mem hj))) (by rw[laid_len,List.length_take];omega)
 ·rw[List.getElem?_eq_none (by rw[itemsOf_len,hl];omega),List.getElem?_eq_none (by omega)]
def encode (l:List It):List UInt8×Int:=if l.length≤6∧allMay l then(laid l,0)else([],1)
def decode (bs:List UInt8):List It×Int:=if (bs.length%7=0∧bs.length≤42)∧allMay (itemsOf bs)then(itemsOf bs,0)else([],2)
theorem encode_yes (l:List It)(h:l.length≤6)(hm:allMay l):encode l=(laid l,0):=if_pos ⟨h,hm⟩
theorem encode_bad (l:List It)(i:It)(hi:i∈l)(h:i.may=false):encode l=([],1):=if_neg (fun hn=>by have:=hn.2 i hi;rw[h]at this;cases this)
theorem encode_many (l:List It)(h:6<l.length):encode l=([],1):=if_neg (fun hn=>by have:=hn.1;omega)
theorem decode_laid (l:List It)(h:l.length≤6)(hm:allMay l):decode (laid l)=(l,0):=by
 unfold decode;rw[itemsOf_laid l hm,if_pos ⟨⟨by rw[laid_len];omega,by rw[laid_len];omega⟩,hm⟩]
theorem decode_odd (bs:List UInt8)(h:bs.length%7≠0):decode bs=([],2):=if_neg (fun hn=>h hn.1.1)
theorem allMay_snoc (l:List It)(i:It)(h:allMay l)(hi:i.may=true):allMay (l++[i]):=by
 intro x hx
 rcases List.mem_append.1 hx with hx|hx
 ·exact h x hx
 ·simp only[List.mem_cons,List.not_mem_nil,or_false]at hx;subst hx;exact hi
end Go.Proofs.YtjkmahmoclobmaaGreat.item
namespace Go.Proofs.YtjkmahmoclobmaaGreat.base
open Go.RowKit mem
theorem cell_int {P:Program}{w:World}{r:Reach}{base:Nat}{u:TypeId}{k:IntKind}{v:Value}(hu:P.underlying u=some (.int k))(h:Cell.okWide P w r base u v):∃ n,v= .int k n∧(Lit.int k n).wf=true:=by
 unfold Cell.okWide at h;rw[hu]at h;unfold Cell.ok at h
 cases v<;>simp_all
 simp [Lit.wf,h.2.1,h.2.2]

theorem row_ints {P:Program}{w:World}{r:Reach}{base:Nat}{ti:TypeId}{ts:List TypeId}(hi:∀ u∈ts,P.underlying u=some (.int .i64)):
  ∀ (cs:List Value),(∀ (i:Nat) (v:Value),cs[i]? = some v→∃ u,u∈ts∧Cell.okWide P w r base u v)→∃ xs:List Int,cs=xs.map I∧∀ x∈xs,(Lit.int .i64 x).wf=true
 | [],_=>⟨[],rfl,by simp⟩
 | c::cs,h=>by
  obtain⟨u,hu,hc⟩:=h 0 c rfl;obtain⟨n,rfl,hn⟩:=cell_int (hi u hu) hc;obtain⟨xs,rfl,hx⟩:=row_ints (ti:=ti) hi cs (fun i v hv=>h (i+1) v (by simpa using hv));exact⟨n::xs,rfl,by simpa using⟨hn,hx⟩⟩
theorem agg_ints {P:Program}{w:World}{r:Reach}{base:Nat}{t:TypeId}{v:Value}{ts:List TypeId}{n:Nat}
  (hu:((match P.underlying t with|some (.struct _)|some (.array _ _)=>true|_=>false):Bool)=true) (hc:P.cellTypes P.depth t=some ts) (hi:∀ u∈ts,P.underlying u=some (.int .i64))
  (hn:P.cellsOf t=n) (h:Value.okWide P w r base t v):∃ xs:List Int,v= .agg (xs.map I).toArray∧xs.length=n∧∀ x∈xs,(Lit.int .i64 x).wf=true:=by
 have h':∃ cs:Array Value,v= .agg cs∧cs.size=P.cellsOf t∧Row.okWide P w r base t cs:=by
  unfold Value.okWide at h
  revert hu h
  cases P.underlying t with
  | none=>simp
  | some u=>cases u<;>simp
 obtain⟨cs,rfl,hs,ts',ht,⟨_,_⟩,hcs⟩:=h'
 obtain rfl:ts=ts':=by rw[hc]at ht;injection ht
 obtain⟨xs,hx,hw⟩:=row_ints (P:=P) (w:=w) (r:=r) (base:=base) (ti:=0) hi cs.toList (fun i v hv=>by
  obtain⟨u,hu,hk⟩:=hcs i v (by simpa using hv)
  exact⟨u,List.mem_of_getElem? hu,hk⟩)
 refine⟨xs,?_,?_,hw⟩
 ·rw[←hx]
 ·rw[←hn,←hs,←Array.length_toList,hx,List.length_map]

theorem list3 {xs:List Int}(h:xs.length=3):∃ a0 a1 a2:Int,xs=[a0,a1,a2]:=by
 match xs,h with
 | [a0,a1,a2],_=>exact⟨a0,a1,a2,rfl⟩
theorem list5 {xs:List Int}(h:xs.length=5):∃ a0 a1 a2 a3 a4:Int,xs=[a0,a1,a2,a3,a4]:=by
 match xs,h with
 | [a0,a1,a2,a3,a4],_=>exact⟨a0,a1,a2,a3,a4,rfl⟩
end Go.Proofs.YtjkmahmoclobmaaGreat.base
