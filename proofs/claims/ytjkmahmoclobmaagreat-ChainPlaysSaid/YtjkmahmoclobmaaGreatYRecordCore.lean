import Derived.Test.YtjkmahmoclobmaaGreatYShapes
import Derived.Test.YtjkmahmoclobmaaGreatYItemCore
import Derived.Test.YtjkmahmoclobmaaGreatYCrcCore
import Derived.Test.YtjkmahmoclobmaaGreatYHeld
import Derived.Test.YtjkmahmoclobmaaGreatYRowCore
set_option maxRecDepth 100000
set_option maxHeartbeats 1000000
namespace Go.Proofs.YtjkmahmoclobmaaGreat.record
open Go.RowKit mem row rowBack fill crc crcMath super item
structure Rc where
 (m l p:Int)
 its:List It
 bks:List (List UInt8)
deriving DecidableEq
def Rc.zero:Rc:=⟨0,0,0,[],[]⟩
def count (its:List It):Nat:=(its.filter It.loaded).length
theorem count_le (its:List It):count its≤its.length:=List.length_filter_le _ _
theorem count_snoc (a:List It)(i:It):count (a++[i])=count a+(if i.loaded=true then 1 else 0):=by
 unfold count;rw[List.filter_append,List.length_append]
 cases h:i.loaded<;>simp [h]
def all64 (l:List (List UInt8)):Prop:=∀ b∈l,b.length=64
instance (l:List (List UInt8)):Decidable (all64 l):=by unfold all64;infer_instance
def Rc.ok (R:Rc):Prop:=(1≤R.m∧R.m≤2147483647)∧(1≤R.l∧R.l≤2147483647)∧(0≤R.p∧R.p≤4294967295)∧(1≤R.its.length∧R.its.length≤6)∧allMay R.its∧count R.its=R.bks.length∧all64 R.bks
instance (R:Rc):Decidable R.ok:=by unfold Rc.ok;infer_instance
def Rc.may (R:Rc):Bool:=decide R.ok
theorem Rc.may_iff (R:Rc):R.may=true↔R.ok:=by simp [Rc.may]
theorem Rc.may_no (R:Rc):R.may=false↔¬R.ok:=by simp [Rc.may]
theorem Rc.ok.few {R:Rc}(h:R.ok):R.bks.length≤6:=by
 obtain⟨_,_,_,⟨_,h6⟩,_,hc,_⟩:=h
 have:=count_le R.its
 omega
def Rc.head (R:Rc):List UInt8:=(([75,82]++bytesOf 4 [R.m,R.l,R.p])++bytesOf 1 [(R.its.length:Int),(R.bks.length:Int)])++laid R.its
theorem Rc.head_len (R:Rc):R.head.length=16+7*R.its.length:=by simp [Rc.head,bytesOf_length,laid_len];omega
def Rc.body (R:Rc):List UInt8:=R.head++List.replicate (60-R.head.length) 0
theorem Rc.body_len (R:Rc)(h:R.its.length≤6):R.body.length=60:=by simp [Rc.body,Rc.head_len];omega
def Rc.tail (R:Rc):List UInt8:=R.bks.flatten
theorem flat_len:∀ (l:List (List UInt8)),all64 l→l.flatten.length=64*l.length
 | [],_=>rfl
 | b::l,h=>by
  rw[List.flatten_cons,List.length_append,h b (by simp),flat_len l (fun c hc=>h c (by simp [hc])),List.length_cons]
  omega
theorem flat_at:∀ (l:List (List UInt8)),all64 l→∀ (i:Nat) (b:List UInt8),l[i]? = some b→(l.flatten.drop (64*i)).take 64=b
 | [],_,i,b,hb=>by simp at hb
 | c::l,h,0,b,hb=>by
  simp at hb;subst hb;rw[List.flatten_cons,Nat.mul_zero,List.drop_zero,List.take_left' (h c (by simp))]
 | c::l,h,i+1,b,hb=>by
  have hc:=h c (by simp);rw[List.flatten_cons,show 64*(i+1)=64+64*i by omega,List.drop_append,List.drop_eq_nil_of_le (by omega),hc,List.nil_append,show 64+64*i-64=64*i by omega];exact flat_at l (fun d hd=>h d (by simp [hd])) i b (by simpa using hb)
def Rc.sum (R:Rc):Nat:=more 0 (R.body++R.tail)
def Rc.sum4 (R:Rc):List UInt8:=sumOf (R.body++R.tail)
theorem Rc.sum4_len (R:Rc):R.sum4.length=4:=sumOf_len _
def Rc.first(R:Rc):List UInt8:=R.body++R.sum4
theorem Rc.first_len (R:Rc)(h:R.its.length≤6):R.first.length=64:=by simp [Rc.first,R.body_len h,R.sum4_len]
def Rc.bytes (R:Rc):List UInt8:=R.first++R.tail
theorem Rc.bytes_len {R:Rc}(h:R.ok):R.bytes.length=64*(1+R.bks.length):=by
 obtain⟨_,_,_,⟨_,h6⟩,_,_,h64⟩:=h;rw[Rc.bytes,List.length_append,R.first_len h6,Rc.tail,flat_len _ h64]
 omega
def numAt (bs:List UInt8)(p x:Nat):Int:=numOf ((bs.drop p).take x)
def nOf (bs:List UInt8):Nat:=(numAt bs 14 1).toNat
def kOf (bs:List UInt8):Nat:=(numAt bs 15 1).toNat
def blocksOf (bs:List UInt8)(k:Nat):List (List UInt8):=(List.range k).map fun i=>(bs.drop (64*(i+1))).take 64
def rawOf (bs:List UInt8):List UInt8:=(bs.drop 16).take (7*nOf bs)
def readOf (bs:List UInt8):Rc:=⟨numAt bs 2 4,numAt bs 6 4,numAt bs 10 4,itemsOf (rawOf bs),blocksOf bs (kOf bs)⟩
theorem blocksOf_len (bs:List UInt8)(k:Nat):(blocksOf bs k).length=k:=by simp [blocksOf]
theorem num_at (x:Nat)(hx:x=1∨x=2∨x=4)(a b:List UInt8)(n:Int)(p:Nat)(hf:fitsW x n=true)(hp:a.length=p):numAt (a++(bytesOf x [n]++b)) p x=n:=one_num x hx a b n p hf hp

theorem read_parts {R:Rc}(h:R.ok):(numAt R.bytes 2 4=R.m∧numAt R.bytes 6 4=R.l∧numAt R.bytes 10 4=R.p)∧(nOf R.bytes=R.its.length∧kOf R.bytes=R.bks.length)∧rawOf R.bytes=laid R.its∧blocksOf R.bytes R.bks.length=R.bks:=by
 have hlen:=R.bytes_len h;have hfew:=h.few;obtain⟨hm,hl,hp,⟨h1,h6⟩,ha,hc,h64⟩:=h;have hbk:=R.first_len h6;obtain⟨m,l,p,its,bks⟩:=R;dsimp only at hm hl hp h1 h6 ha hc h64 hfew hlen;have f1:=fits4 m (by omega) (by omega);have f2:=fits4 l (by omega) (by omega);have f3:=fits4 p (by omega) (by omega);have f4:=fits1 (its.length:Int) (by omega) (by omega);have f5:=fits1 (bks.length:Int) (by omega) (by omega);generalize hb:Rc.bytes ⟨m,l,p,its,bks⟩=bs at hlen
 obtain⟨z,hz⟩:∃ z,bs=[75,82]++(bytesOf 4 [m]++(bytesOf 4 [l]++(bytesOf 4 [p]++(bytesOf 1 [(its.length:Int)]++(bytesOf 1 [(bks.length:Int)]++(laid its++z)))))):=
  ⟨List.replicate (60-(Rc.head ⟨m,l,p,its,bks⟩).length) 0++(Rc.sum4 ⟨m,l,p,its,bks⟩++Rc.tail ⟨m,l,p,its,bks⟩),by
   rw[←hb]
   conv=>lhs;unfold Rc.bytes Rc.first Rc.body
   generalize List.replicate (60-(Rc.head ⟨m,l,p,its,bks⟩).length) (0:UInt8)=zs;simp only[Rc.head];rw[bytesOf_cons 4 (by omega) m [l,p],bytesOf_cons 4 (by omega) l [p],bytesOf_cons 1 (by omega) (its.length:Int) [(bks.length:Int)]]
   simp only[List.append_assoc,List.cons_append,List.nil_append]⟩
 have l1:∀ n:Int,(bytesOf 1 [n]).length=1:=fun n=>by simp [bytesOf_length]
 have l4:∀ n:Int,(bytesOf 4 [n]).length=4:=fun n=>by simp [bytesOf_length]
 have g1:numAt bs 2 4=m:=by
  rw[hz];exact num_at 4 (by omega) [75,82] _ m 2 f1 rfl
 have g2:numAt bs 6 4=l:=by
  have:=num_at 4 (by omega) ([75,82]++bytesOf 4 [m]) (bytesOf 4 [p]++(bytesOf 1 [(its.length:Int)]++(bytesOf 1 [(bks.length:Int)]++(laid its++z)))) l 6 f2 (by simp [l4])
  rwa [List.append_assoc,←hz]at this
 have g3:numAt bs 10 4=p:=by
  have:=num_at 4 (by omega) ([75,82]++bytesOf 4 [m]++bytesOf 4 [l]) (bytesOf 1 [(its.length:Int)]++(bytesOf 1 [(bks.length:Int)]++(laid its++z))) p 10 f3 (by simp [l4])
  simp only[List.append_assoc]at this
  rwa [←hz]at this
 have g4:numAt bs 14 1=its.length:=by
  have:=num_at 1 (by omega) ([75,82]++bytesOf 4 [m]++bytesOf 4 [l]++bytesOf 4 [p]) (bytesOf 1 [(bks.length:Int)]++(laid its++z)) (its.length:Int) 14 f4 (by simp [l4])
  simp only[List.append_assoc]at this
  rwa [←hz]at this
 have g5:numAt bs 15 1=bks.length:=by
  have:=num_at 1 (by omega) ([75,82]++bytesOf 4 [m]++bytesOf 4 [l]++bytesOf 4 [p]++bytesOf 1 [(its.length:Int)]) (laid its++z) (bks.length:Int) 15 f5 (by simp [l4,l1])
  simp only[List.append_assoc]at this
  rwa [←hz]at this
 have g6:(bs.drop 16).take (7*its.length)=laid its:=by
  have e:bs=([75,82]++bytesOf 4 [m]++bytesOf 4 [l]++bytesOf 4 [p]++bytesOf 1 [(its.length:Int)]++bytesOf 1 [(bks.length:Int)])++(laid its++z):=by
   simp only[List.append_assoc];exact hz
  rw[e,List.drop_left' (by simp [l4,l1]),List.take_left' (laid_len its)]
 have g7:blocksOf bs bks.length=bks:=by
  apply List.ext_getElem?
  intro i
  by_cases hi:i<bks.length
  ·have hd:bs.drop (64*(i+1))=bks.flatten.drop (64*i):=by
    rw[←hb];unfold Rc.bytes;rw[List.drop_append,List.drop_eq_nil_of_le (by rw[hbk];omega),hbk,List.nil_append,show 64*(i+1)-64=64*i by omega]
    rfl
   have hs:bks[i]? = some bks[i]:=List.getElem?_eq_getElem hi;rw[hs,←flat_at bks h64 i _ hs,←hd]
   simp [blocksOf,hi]
  ·rw[List.getElem?_eq_none (by rw[blocksOf_len];omega),List.getElem?_eq_none (by omega)]
 have en:nOf bs=its.length:=by unfold nOf;rw[g4];exact Int.toNat_natCast _
 have ek:kOf bs=bks.length:=by unfold kOf;rw[g5];exact Int.toNat_natCast _
 refine⟨⟨g1,g2,g3⟩,⟨en,ek⟩,?_,g7⟩;unfold rawOf;rw[en];exact g6
theorem read_bytes {R:Rc}(h:R.ok):readOf R.bytes=R:=by
 obtain⟨⟨g1,g2,g3⟩,⟨en,ek⟩,g6,g7⟩:=read_parts h;unfold readOf;rw[g1,g2,g3,ek,g6,g7,itemsOf_laid R.its h.2.2.2.2.1]
def encode (R:Rc):List UInt8×Int×Int:=if R.may=true then(R.bytes,R.sum,0)else([],0,1)
def decode (bs:List UInt8):Rc×Int×Int:=if (readOf bs).may=true∧(readOf bs).bytes=bs then(readOf bs,(readOf bs).sum,0)else(Rc.zero,0,2)
theorem decode_bytes {R:Rc}(h:R.ok):decode R.bytes=(R,(R.sum:Int),0):=by
 unfold decode;rw[read_bytes h,if_pos ⟨R.may_iff.2 h,rfl⟩]
theorem decode_or (bs:List UInt8):(∃ R:Rc,R.ok∧R.bytes=bs∧decode bs=(R,(R.sum:Int),0))∨decode bs=(Rc.zero,0,2):=by
 by_cases h:(readOf bs).may=true∧(readOf bs).bytes=bs
 ·exact .inl ⟨readOf bs,(Rc.may_iff _).1 h.1,h.2,if_pos h⟩
 ·exact .inr (if_neg h)
theorem decode_no (bs:List UInt8)(h:∀ R:Rc,R.ok→R.bytes≠bs):decode bs=(Rc.zero,0,2):=by
 rcases decode_or bs with⟨R,h1,h2,_⟩|h3
 ·exact absurd h2 (h R h1)
 ·exact h3
theorem decode_yes (bs:List UInt8)(h:(decode bs).2.2=0):∃ R:Rc,R.ok∧R.bytes=bs∧decode bs=(R,(R.sum:Int),0):=by
 rcases decode_or bs with h1|h3
 ·exact h1
 ·rw[h3]at h;cases h
theorem bytes_take (R:Rc)(h:R.its.length≤6):R.bytes.take 64=R.first:=List.take_left' (R.first_len h)
theorem first_start (R:Rc):R.first[0]? = some 75∧R.first[1]? = some 82:=by
 simp only[Rc.first,Rc.body,Rc.head,List.append_assoc,List.cons_append];exact⟨rfl,rfl⟩
theorem numAt_take (bs:List UInt8)(p x n:Nat)(h:p+x≤n):numAt (bs.take n) p x=numAt bs p x:=by
 unfold numAt;rw[List.drop_take,List.take_take,Nat.min_eq_left (by omega)]
theorem nOf_take (bs:List UInt8):nOf (bs.take 64)=nOf bs:=by unfold nOf;rw[numAt_take _ _ _ _ (by omega)]
theorem kOf_take (bs:List UInt8):kOf (bs.take 64)=kOf bs:=by unfold kOf;rw[numAt_take _ _ _ _ (by omega)]
theorem kOf_bytes {R:Rc}(h:R.ok):kOf R.bytes=R.bks.length:=(read_parts h).2.1.2
theorem nOf_bytes {R:Rc}(h:R.ok):nOf R.bytes=R.its.length:=(read_parts h).2.1.1
def sizeOf (bs:List UInt8):Nat:=if bs.length=64∧(bs[0]? = some 75∧bs[1]? = some 82)∧(1≤nOf bs∧nOf bs≤6)∧kOf bs≤nOf bs then 1+kOf bs else 0
theorem size_bytes {R:Rc}(h:R.ok):sizeOf (R.bytes.take 64)=1+R.bks.length:=by
 have hn:=nOf_bytes h;have hk:=kOf_bytes h;have hl:=R.bytes_len h;obtain⟨_,_,_,⟨h1,h6⟩,_,hc,_⟩:=h;have hle:=count_le R.its;unfold sizeOf;rw[nOf_take,kOf_take,hn,hk,if_pos ⟨by rw[List.length_take,hl];omega,by rw[bytes_take R h6];exact first_start R,⟨h1,h6⟩,by omega⟩]
theorem decode_size (bs:List UInt8)(h:bs.length<64∨64*sizeOf (bs.take 64)≠bs.length):decode bs=(Rc.zero,0,2):=
 decode_no bs fun R hR e=>by
  have h1:=size_bytes hR;have h2:=R.bytes_len hR;rw[e]at h1 h2;rw[h1]at h
  omega
theorem decode_items (bs:List UInt8)(h:¬allMay (itemsOf (rawOf bs))):decode bs=(Rc.zero,0,2):=
 if_neg fun hn=>h ((Rc.may_iff _).1 hn.1).2.2.2.2.1
theorem size_pos (bs:List UInt8)(h:64*sizeOf (bs.take 64)=bs.length)(h64:64≤bs.length):
  (bs[0]? = some 75∧bs[1]? = some 82)∧(1≤nOf bs∧nOf bs≤6)∧kOf bs≤nOf bs∧bs.length=64*(1+kOf bs):=by
 unfold sizeOf at h
 split at h
 ·rename_i hc
  obtain⟨_,⟨h0,h1⟩,hn,hk⟩:=hc;rw[nOf_take]at hn;rw[kOf_take,nOf_take]at hk;rw[kOf_take]at h;rw[List.getElem?_take_of_lt (by omega)]at h0 h1;exact⟨⟨h0,h1⟩,hn,hk,h.symm⟩
 ·omega

end Go.Proofs.YtjkmahmoclobmaaGreat.record
namespace Go.Proofs.YtjkmahmoclobmaaGreat.record
open Go.RowKit mem base row rowBack fill crc crcMath super item
structure RcAt (w:World)(L:Option Addr)(n:Nat)(A:Option Addr)(k:Nat)(R:Rc):Prop where
 hn:R.its.length=n
 hk:R.bks.length=k
 its:Items w [] L R.its
 bks:Parts w A R.bks
theorem RcAt.kept {w w':World}{L:Option Addr}{n:Nat}{A:Option Addr}{k:Nat}{R:Rc}(h:RcAt w L n A k R)(K:Kept [] w w'):RcAt w' L n A k R:=
 ⟨h.hn,h.hk,h.its.kept K (by simp),h.bks.kept K⟩
structure RcIn (w:World)(S:List Nat)(L:Option Addr)(n:Nat)(A:Option Addr)(k:Nat)(R:Rc):Prop where
 hn:R.its.length=n
 hk:R.bks.length=k
 its:Items w S L R.its
 bks:∃ vs,PartsIn w S vs R.bks∧Vals w S A vs
theorem RcIn.kept {w w':World}{S S':List Nat}{L:Option Addr}{n:Nat}{A:Option Addr}{k:Nat}{R:Rc}(h:RcIn w S L n A k R)(K:Kept S' w w')(hs:∀ i∈S',i∈S):RcIn w' S L n A k R:=
 ⟨h.hn,h.hk,h.its.kept K hs,by
  obtain⟨vs,h1,h2⟩:=h.bks
  exact⟨vs,h1.kept K hs,h2.kept K hs⟩⟩
theorem RcIn.less {w:World}{S S':List Nat}{L:Option Addr}{n:Nat}{A:Option Addr}{k:Nat}{R:Rc}(h:RcIn w S L n A k R)(hs:∀ i∈S',i∈S):RcIn w S' L n A k R:=
 ⟨h.hn,h.hk,Vals.mono h.its hs,by
  obtain⟨vs,h1,h2⟩:=h.bks
  exact⟨vs,h1.less hs,h2.mono hs⟩⟩
theorem RcIn.zero (w:World)(S:List Nat)(L A:Option Addr):RcIn w S L 0 A 0 Rc.zero:=⟨rfl,rfl,Items.nil _ _ _,[],PartsIn.nil _ _,Vals.nil _ _ _⟩
theorem RcIn.away {w:World}{S S':List Nat}{L:Option Addr}{n:Nat}{A:Option Addr}{k:Nat}{R:Rc}(h:RcIn w S L n A k R)(hs:∀ i∈S',i∈S∨w.heap.size≤i):RcIn w S' L n A k R:=
 ⟨h.hn,h.hk,Vals.away h.its hs,by
  obtain⟨vs,h1,h2⟩:=h.bks
  exact⟨vs,h1.away hs,h2.away hs⟩⟩
theorem RcIn.at_ {w:World}{S:List Nat}{L:Option Addr}{n:Nat}{A:Option Addr}{k:Nat}{R:Rc}(h:RcIn w S L n A k R):RcAt w L n A k R:=
 ⟨h.hn,h.hk,Vals.mono h.its (by simp),by
  obtain⟨vs,h1,h2⟩:=h.bks
  exact h1.of.parts (h2.mono (by simp))⟩
theorem between (n a b:Int)(w:World):
  Calls Tryz.prog 224 #[.int .i64 n,.int .i64 a,.int .i64 b] w fun e w'=>e= .returned (.bool (decide (a≤n)&&decide (n≤b)))∧w=w':=by
 by_cases h:a≤n
 ·go_enter Tryz.func224,Tryz.ntmps224;go_wp2;go_ret;exact⟨by simp [h],rfl⟩
 ·go_enter Tryz.func224,Tryz.ntmps224;go_wp2;go_ret;exact⟨by rw[show decide (a≤n)=false from decide_eq_false (by omega)];rfl,rfl⟩
theorem between_yes (n a b:Int)(w:World)(h:a≤n∧n≤b):
  Calls Tryz.prog 224 #[.int .i64 n,.int .i64 a,.int .i64 b] w fun e w'=>e= .returned (.bool true)∧w=w':=
 (between n a b w).mono fun e w' ⟨he,hw⟩=>⟨by rw[he];simp [h.1,h.2],hw⟩
theorem between_no (n a b:Int)(w:World)(h:¬(a≤n∧n≤b)):
  Calls Tryz.prog 224 #[.int .i64 n,.int .i64 a,.int .i64 b] w fun e w'=>e= .returned (.bool false)∧w=w':=
 (between n a b w).mono fun e w' ⟨he,hw⟩=>⟨by rw[he];congr 2;rw[←Bool.not_eq_true,Bool.and_eq_true,decide_eq_true_iff,decide_eq_true_iff];omega,hw⟩
def mayIts (l:List It):Bool:=decide (1≤l.length∧l.length≤6)&&decide (allMay l)
theorem mayItems_any (L:Option Addr)(n c:Nat)(l:List It)(w:World)(hv:Items w [] L l)(hl:l.length=n):
  Calls Tryz.prog 225 #[.slice L n c] w fun e w'=>e= .returned (.bool (mayIts l))∧Kept [] w w':=by
 have HV:=hide hv;have HL:=hide hl;clear hv hl
 by_cases h:1≤n∧n≤6
 ·have HH:=hide h;have hn1:=h.1;have hn6:=h.2;clear h;go_enter Tryz.func225,Tryz.ntmps225;go_wp2_with fail;refine(between_yes n 1 6 _ (by omega)).mono ?_;rintro e w1 ⟨rfl,rfl⟩;go_wp2
  go_loopw [11] (fun i wr=>∃ k:Nat,k≤n∧i= .int .i64 k∧Hid (allMay (l.take k))∧Hid (Kept [] w wr)) (fun i wr=>n-(intOf i).toNat)
  case atStart=>exact⟨0,by omega,rfl,hide (by simp [allMay]),hide (Kept.refl _ _)⟩
  case round=>
   obtain⟨k,hk,rfl,HM1,HK1⟩:=hrel
   by_cases hlt:k<n
   ·obtain⟨i,hi⟩:∃ i,l[k]? = some i:=⟨_,List.getElem?_eq_getElem (by rw[HL.out];exact hlt)⟩;obtain⟨ad,rfl,_,c0,c1,c2,c3⟩:=(HV.out.kept HK1.out (by simp)).at_ hi;have HI:=hide hi;clear hi;have hk0:=(Kept.refl [] wr).alloc (.cells i.cells 84);go_wp2_with fail;refine(may_any i _).mono ?_;rintro e w2 ⟨rfl,hk⟩;have HK2:=hide (HK1.out.trans (hk0.trans hk (by simp)) (by simp));clear hk hk0 c0 c1 c2 c3
    by_cases hm:i.may=true
    ·rw[hm];have hM:=hide (allMay_snoc _ i HM1.out hm);clear hm;go_wp2;go_roundw
     case rel=>exact⟨k+1,by omega,by go_num,hide (by rw[List.take_add_one,HI.out];exact hM.out),HK2⟩
     case measure=>simp [intOf];omega
    ·have hm':=(Bool.not_eq_true _).mp hm;rw[hm']
     have HE:Hid (mayIts l=false):=hide (by
      unfold mayIts
      rw[decide_eq_false (fun h:allMay l=>hm (h i (List.mem_of_getElem? HI.out))),Bool.and_false])
     clear hm hm';go_wp2;go_ret;exact⟨by rw[HE.out];rfl,HK2.out⟩
   ·obtain rfl:k=n:=by omega
    have HE:Hid (mayIts l=true):=hide (by
     have:=HM1.out
     rw[List.take_of_length_le (by rw[HL.out];exact Nat.le_refl _)]at this;unfold mayIts
     rw[HL.out,decide_eq_true HH.out,decide_eq_true this,Bool.and_true])
    go_wp2;go_ret;exact⟨by rw[HE.out];rfl,HK1.out⟩
 ·have HE:Hid (mayIts l=false):=hide (by
   unfold mayIts
   rw[HL.out,decide_eq_false h,Bool.false_and])
  have hh:¬((1:Int)≤n∧(n:Int)≤6):=by omega
  clear h;have HH:=hide hh;clear hh;go_enter Tryz.func225,Tryz.ntmps225;go_wp2_with fail;refine(between_no n 1 6 _ HH.out).mono ?_;rintro e w1 ⟨rfl,rfl⟩;go_wp2;go_ret;exact⟨by rw[HE.out];rfl,Kept.refl _ _⟩

theorem count_take (l:List It)(k:Nat)(i:It)(h:l[k]? = some i):count (l.take (k+1))=count (l.take k)+(if i.loaded=true then 1 else 0):=by
 rw[List.take_add_one,h];exact count_snoc _ _
theorem count_some (l:List It)(k:Nat)(i:It)(c:Nat)(h:l[k]? = some i)(hc:count (l.take k)=c)(hl:i.loaded=true):count (l.take (k+1))=c+1:=by
 rw[count_take l k i h,hc,if_pos hl]
theorem count_none (l:List It)(k:Nat)(i:It)(c:Nat)(h:l[k]? = some i)(hc:count (l.take k)=c)(hl:i.loaded=false):count (l.take (k+1))=c:=by
 rw[count_take l k i h,hc,if_neg (by rw[hl];simp),Nat.add_zero]

theorem loaded_all (L:Option Addr)(n c:Nat)(l:List It)(w:World)(hv:Items w [] L l)(hl:l.length=n)(hn:n≤1000):
  Calls Tryz.prog 226 #[.slice L n c] w fun e w'=>e= .returned (.int .i64 (count l))∧Kept [] w w':=by
 have HV:=hide hv;have HL:=hide hl;clear hv hl;go_enter Tryz.func226,Tryz.ntmps226;go_wp2
 go_loopw [8,3] (fun i x wr=>∃ k c:Nat,k≤n∧c≤k∧i= .int .i64 k∧x= .int .i64 c∧Hid (count (l.take k)=c)∧Hid (Kept [] w wr)) (fun i x wr=>n-(intOf i).toNat)
 case atStart=>exact⟨0,0,by omega,by omega,rfl,rfl,hide rfl,hide (Kept.refl _ _)⟩
 case round=>
  obtain⟨k,q,hk,hq,rfl,rfl,HC1,HK1⟩:=hrel
  by_cases hlt:k<n
  ·obtain⟨i,hi⟩:∃ i,l[k]? = some i:=⟨_,List.getElem?_eq_getElem (by rw[HL.out];exact hlt)⟩;obtain⟨ad,rfl,_,c0,c1,c2,c3⟩:=(HV.out.kept HK1.out (by simp)).at_ hi;have HI:=hide hi;clear hi;have hk0:=(Kept.refl [] wr).alloc (.cells i.cells 84);go_wp2_with fail;refine(loaded_any i _).mono ?_;rintro e w2 ⟨rfl,hk⟩;have HK2:=hide (HK1.out.trans (hk0.trans hk (by simp)) (by simp));clear hk hk0 c0 c1 c2 c3
   by_cases hm:i.loaded=true
   ·rw[hm];have HC2:=hide (count_some l k i q HI.out HC1.out hm);clear hm;go_wp2;go_roundw
    case rel=>exact⟨k+1,q+1,by omega,by omega,by go_num,by go_num,HC2,HK2⟩
    case measure=>simp [intOf];omega
   ·have hm':=(Bool.not_eq_true _).mp hm;rw[hm'];have HC2:=hide (count_none l k i q HI.out HC1.out hm');clear hm hm';go_wp2;go_roundw
    case rel=>exact⟨k+1,q,by omega,by omega,by go_num,rfl,HC2,HK2⟩
    case measure=>simp [intOf];omega
  ·obtain rfl:k=n:=by omega
   have HE:Hid (count l=q):=hide (by
    have:=HC1.out
    rwa [List.take_of_length_le (by rw[HL.out];exact Nat.le_refl _)]at this)
   go_wp2;go_ret;exact⟨by rw[HE.out];rfl,HK1.out⟩

theorem all64_snoc (l:List (List UInt8))(k:Nat)(b:List UInt8)(h:all64 (l.take k))(hb:l[k]? = some b)(h64:b.length=64):all64 (l.take (k+1)):=by
 rw[List.take_add_one,hb];intro x hx
 rcases List.mem_append.1 hx with hx|hx
 ·exact h x hx
 ·simp only[Option.toList_some,List.mem_cons,List.not_mem_nil,or_false]at hx;rw[hx];exact h64

theorem allWhole_any (A:Option Addr)(k c:Nat)(l:List (List UInt8))(w:World)(hv:Parts w A l)(hl:l.length=k)(hk:k≤1000):
  Calls Tryz.prog 227 #[.slice A k c] w fun e w'=>e= .returned (.bool (decide (all64 l)))∧w=w':=by
 have HV:=hide hv;have HL:=hide hl;clear hv hl;go_enter Tryz.func227,Tryz.ntmps227;go_wp2
 go_loop [7] (fun i=>∃ j:Nat,j≤k∧i= .int .i64 j∧Hid (all64 (l.take j))) (fun i=>k-(intOf i).toNat)
 case atStart=>exact⟨0,by omega,rfl,hide (by intro b hb;simp at hb)⟩
 case round=>
  obtain⟨j,hj,rfl,HM⟩:=hrel
  by_cases hlt:j<k
  ·obtain⟨b,hb⟩:∃ b,l[j]? = some b:=⟨_,List.getElem?_eq_getElem (by rw[HL.out];exact hlt)⟩;obtain⟨ad,Ai,ci,rfl,hc,hm,_⟩:=HV.out.at_ j _ hb;have HB:=hide hb;clear hb
   by_cases h64:b.length=64
   ·have HM2:=hide (all64_snoc l j b HM.out HB.out h64);rw[h64]at hc;clear h64 hm;go_wp2
    go_round
    case rel=>exact⟨j+1,by omega,by go_num,HM2⟩
    case measure=>simp [intOf];omega
   ·have HE:Hid (decide (all64 l)=false):=hide (decide_eq_false (fun h=>h64 (h b (List.mem_of_getElem? HB.out))))
    have hne:((b.length:Int) != 64)=true:=by rw[bne_iff_ne];omega
    clear h64;go_wp2;go_ret;exact⟨by rw[HE.out];rfl,rfl⟩
  ·obtain rfl:j=k:=by omega
   have HE:Hid (decide (all64 l)=true):=hide (decide_eq_true (by
    have:=HM.out
    rwa [List.take_of_length_le (by rw[HL.out];exact Nat.le_refl _)]at this))
   go_wp2;go_ret;exact⟨by rw[HE.out];rfl,rfl⟩
end Go.Proofs.YtjkmahmoclobmaaGreat.record
namespace Go.Proofs.YtjkmahmoclobmaaGreat.record
open Go.RowKit mem base row rowBack fill crc crcMath super item
theorem held5 {w0 W W':World}{g:Nat}{v0 v1 v2 v3 v4:Value}(h:Kept [] w0 W∧W.cell? ⟨g,0,none⟩=some v0∧W.cell? ⟨g,1,none⟩=some v1∧W.cell? ⟨g,2,none⟩=some v2∧W.cell? ⟨g,3,none⟩=some v3∧W.cell? ⟨g,4,none⟩=some v4)(hk:Kept [] W W'):
  Kept [] w0 W'∧W'.cell? ⟨g,0,none⟩=some v0∧W'.cell? ⟨g,1,none⟩=some v1∧W'.cell? ⟨g,2,none⟩=some v2∧W'.cell? ⟨g,3,none⟩=some v3∧W'.cell? ⟨g,4,none⟩=some v4:=
 ⟨h.1.trans hk (by simp),hk.cell h.2.1 (by simp),hk.cell h.2.2.1 (by simp),hk.cell h.2.2.2.1 (by simp),hk.cell h.2.2.2.2.1 (by simp),hk.cell h.2.2.2.2.2 (by simp)⟩
theorem ok_iff (R:Rc):R.ok↔(1≤R.m∧R.m≤2147483647)∧(1≤R.l∧R.l≤2147483647)∧(0≤R.p∧R.p≤4294967295)∧mayIts R.its=true∧count R.its=R.bks.length∧all64 R.bks:=by
 unfold Rc.ok mayIts;rw[Bool.and_eq_true,decide_eq_true_iff,decide_eq_true_iff]
 constructor
 ·rintro⟨a,b,c,d,e,f,g⟩
  exact⟨a,b,c,⟨d,e⟩,f,g⟩
 ·rintro⟨a,b,c,⟨d,e⟩,f,g⟩
  exact⟨a,b,c,d,e,f,g⟩

theorem may_m (R:Rc)(L A:Option Addr)(n c k d:Nat)(w:World)(h:RcAt w L n A k R)(h1:¬(1≤R.m∧R.m≤2147483647)):
  Calls Tryz.prog 208 #[.agg #[.int .i64 R.m,.int .i64 R.l,.int .i64 R.p,.slice L n c,.slice A k d]] w fun e w'=>e= .returned (.bool R.may)∧Kept [] w w':=by
 have hk1:=(Kept.refl [] w).alloc (.cells #[.int .i64 R.m,.int .i64 R.l,.int .i64 R.p,.slice L n c,.slice A k d] 111);have hb1:=Blk.new w 111 #[.int .i64 R.m,.int .i64 R.l,.int .i64 R.p,.slice L n c,.slice A k d];obtain⟨g,hg⟩:∃ g,w.heap.size=g:=⟨_,rfl⟩;rw[hg]at hb1;have f0:=hb1.cell 0;have f1:=hb1.cell 1;have f2:=hb1.cell 2;have f3:=hb1.cell 3;have f4:=hb1.cell 4;have HI:=hide (h.its.kept hk1 (by simp));have HP:=hide (h.bks.kept hk1);have HN:=hide h.hn;have HKN:=hide h.hk;have HK1:=hide hk1;have H1:=hide h1;have HF:Hid (R.may=false):=hide ((Rc.may_no R).2 (fun hn=>h1 ((ok_iff R).1 hn).1));clear hk1 hb1 h h1;go_enter Tryz.func208,Tryz.ntmps208;go_wp2;generalize hw1:w.alloc (.cells #[.int .i64 R.m,.int .i64 R.l,.int .i64 R.p,.slice L n c,.slice A k d] 111)=w1 at*;clear hw1;refine wp_region_noPanic ?_;refine wp_region_held_drew (S:=fun W=>Kept [] w1 W∧W.cell? ⟨g,0,none⟩=some (.int .i64 R.m)∧W.cell? ⟨g,1,none⟩=some (.int .i64 R.l)∧W.cell? ⟨g,2,none⟩=some (.int .i64 R.p)∧W.cell? ⟨g,3,none⟩=some (.slice L n c)∧W.cell? ⟨g,4,none⟩=some (.slice A k d)) (by kernel_rfl) (by exact⟨(Kept.refl _ w1).drew,f0,f1,f2,f3,f4⟩) (fun hHeld=> ?_);refine tK 0 3 rfl ?_;refine tK 1 4 rfl ?_;refine hO 2 (some 5) rfl fun K hK=> ?_;go_simp;refine(between_no R.m 1 2147483647 _ H1.out).mono ?_;rintro e w2 ⟨rfl,rfl⟩;refine hK.out _ _ (by exact hHeld) (fun hHeld=>tS ?_);clear hK K;refine tK 3 6 rfl ?_;refine tU 4 7 rfl ?_;refine tU 5 8 rfl ?_;refine tU 6 9 rfl ?_;refine tK 7 10 rfl ?_;refine tK 8 11 rfl ?_;refine tU 9 12 rfl ?_
 refine tU 10 13 rfl ?_;refine tU 11 14 rfl ?_;refine tK 12 15 rfl ?_;refine tK 13 16 rfl ?_;refine tU 14 17 rfl ?_;refine tU 15 18 rfl ?_;refine tU 16 19 rfl ?_;refine tK 17 20 rfl ?_;refine tK 18 21 rfl ?_;refine tU 19 22 rfl ?_;refine tU 20 23 rfl ?_;refine tU 21 24 rfl ?_;refine tU 22 25 rfl ?_;refine tU 23 26 rfl ?_;refine tU 24 27 rfl ?_;refine tU 25 28 rfl ?_;refine tK 26 29 rfl ?_;refine tK 27 30 rfl ?_;refine tU 28 31 rfl ?_;refine tU 29 32 rfl ?_;refine tU 30 33 rfl ?_;refine tK 31 34 rfl ?_;refine tK 32 2 rfl ?_;refine wpAnyH_done (by kernel_rfl) ?_ _;refine NoPanic.normal ?_;go_wp2;go_ret;exact⟨by rw[HF.out];rfl,HK1.out.trans hHeld.1 (by simp)⟩

theorem may_l (R:Rc)(L A:Option Addr)(n c k d:Nat)(w:World)(h:RcAt w L n A k R)(h1:1≤R.m∧R.m≤2147483647)(h2:¬(1≤R.l∧R.l≤2147483647)):
  Calls Tryz.prog 208 #[.agg #[.int .i64 R.m,.int .i64 R.l,.int .i64 R.p,.slice L n c,.slice A k d]] w fun e w'=>e= .returned (.bool R.may)∧Kept [] w w':=by
 have hk1:=(Kept.refl [] w).alloc (.cells #[.int .i64 R.m,.int .i64 R.l,.int .i64 R.p,.slice L n c,.slice A k d] 111);have hb1:=Blk.new w 111 #[.int .i64 R.m,.int .i64 R.l,.int .i64 R.p,.slice L n c,.slice A k d];obtain⟨g,hg⟩:∃ g,w.heap.size=g:=⟨_,rfl⟩;rw[hg]at hb1;have f0:=hb1.cell 0;have f1:=hb1.cell 1;have f2:=hb1.cell 2;have f3:=hb1.cell 3;have f4:=hb1.cell 4;have HI:=hide (h.its.kept hk1 (by simp));have HP:=hide (h.bks.kept hk1);have HN:=hide h.hn;have HKN:=hide h.hk;have HK1:=hide hk1;have H1:=hide h1;have H2:=hide h2;have HF:Hid (R.may=false):=hide ((Rc.may_no R).2 (fun hn=>h2 ((ok_iff R).1 hn).2.1));clear hk1 hb1 h h1 h2;go_enter Tryz.func208,Tryz.ntmps208;go_wp2;generalize hw1:w.alloc (.cells #[.int .i64 R.m,.int .i64 R.l,.int .i64 R.p,.slice L n c,.slice A k d] 111)=w1 at*;clear hw1;refine wp_region_noPanic ?_;refine wp_region_held_drew (S:=fun W=>Kept [] w1 W∧W.cell? ⟨g,0,none⟩=some (.int .i64 R.m)∧W.cell? ⟨g,1,none⟩=some (.int .i64 R.l)∧W.cell? ⟨g,2,none⟩=some (.int .i64 R.p)∧W.cell? ⟨g,3,none⟩=some (.slice L n c)∧W.cell? ⟨g,4,none⟩=some (.slice A k d)) (by kernel_rfl) (by exact⟨(Kept.refl _ w1).drew,f0,f1,f2,f3,f4⟩) (fun hHeld=> ?_);refine tK 0 3 rfl ?_;refine tK 1 4 rfl ?_;refine hO 2 (some 5) rfl fun K hK=> ?_;go_simp;refine(between_yes R.m 1 2147483647 _ H1.out).mono ?_;rintro e w2 ⟨rfl,rfl⟩;refine hK.out _ _ (by exact hHeld) (fun hHeld=>tS ?_);clear hK K;refine tK 3 6 rfl ?_;refine tK 4 7 rfl ?_;refine tK 5 8 rfl ?_;refine hO 6 (some 9) rfl fun K hK=> ?_;go_simp
 refine(between_no R.l 1 2147483647 _ H2.out).mono ?_;rintro e w2 ⟨rfl,rfl⟩;refine hK.out _ _ (by exact hHeld) (fun hHeld=>tS ?_);clear hK K;refine tK 7 10 rfl ?_;refine tK 8 11 rfl ?_;refine tU 9 12 rfl ?_;refine tU 10 13 rfl ?_;refine tU 11 14 rfl ?_;refine tK 12 15 rfl ?_;refine tK 13 16 rfl ?_;refine tU 14 17 rfl ?_;refine tU 15 18 rfl ?_;refine tU 16 19 rfl ?_;refine tK 17 20 rfl ?_;refine tK 18 21 rfl ?_;refine tU 19 22 rfl ?_;refine tU 20 23 rfl ?_;refine tU 21 24 rfl ?_;refine tU 22 25 rfl ?_;refine tU 23 26 rfl ?_;refine tU 24 27 rfl ?_;refine tU 25 28 rfl ?_;refine tK 26 29 rfl ?_;refine tK 27 30 rfl ?_;refine tU 28 31 rfl ?_;refine tU 29 32 rfl ?_;refine tU 30 33 rfl ?_;refine tK 31 34 rfl ?_;refine tK 32 2 rfl ?_;refine wpAnyH_done (by kernel_rfl) ?_ _;refine NoPanic.normal ?_;go_wp2;go_ret;exact⟨by rw[HF.out];rfl,HK1.out.trans hHeld.1 (by simp)⟩

theorem may_p (R:Rc)(L A:Option Addr)(n c k d:Nat)(w:World)(h:RcAt w L n A k R)(h1:1≤R.m∧R.m≤2147483647)(h2:1≤R.l∧R.l≤2147483647)(h3:¬(0≤R.p∧R.p≤4294967295)):
  Calls Tryz.prog 208 #[.agg #[.int .i64 R.m,.int .i64 R.l,.int .i64 R.p,.slice L n c,.slice A k d]] w fun e w'=>e= .returned (.bool R.may)∧Kept [] w w':=by
 have hk1:=(Kept.refl [] w).alloc (.cells #[.int .i64 R.m,.int .i64 R.l,.int .i64 R.p,.slice L n c,.slice A k d] 111);have hb1:=Blk.new w 111 #[.int .i64 R.m,.int .i64 R.l,.int .i64 R.p,.slice L n c,.slice A k d];obtain⟨g,hg⟩:∃ g,w.heap.size=g:=⟨_,rfl⟩;rw[hg]at hb1;have f0:=hb1.cell 0;have f1:=hb1.cell 1;have f2:=hb1.cell 2;have f3:=hb1.cell 3;have f4:=hb1.cell 4;have HI:=hide (h.its.kept hk1 (by simp));have HP:=hide (h.bks.kept hk1);have HN:=hide h.hn;have HKN:=hide h.hk;have HK1:=hide hk1;have H1:=hide h1;have H2:=hide h2;have H3:=hide h3;have HF:Hid (R.may=false):=hide ((Rc.may_no R).2 (fun hn=>h3 ((ok_iff R).1 hn).2.2.1));clear hk1 hb1 h h1 h2 h3;go_enter Tryz.func208,Tryz.ntmps208;go_wp2;generalize hw1:w.alloc (.cells #[.int .i64 R.m,.int .i64 R.l,.int .i64 R.p,.slice L n c,.slice A k d] 111)=w1 at*;clear hw1;refine wp_region_noPanic ?_;refine wp_region_held_drew (S:=fun W=>Kept [] w1 W∧W.cell? ⟨g,0,none⟩=some (.int .i64 R.m)∧W.cell? ⟨g,1,none⟩=some (.int .i64 R.l)∧W.cell? ⟨g,2,none⟩=some (.int .i64 R.p)∧W.cell? ⟨g,3,none⟩=some (.slice L n c)∧W.cell? ⟨g,4,none⟩=some (.slice A k d)) (by kernel_rfl) (by exact⟨(Kept.refl _ w1).drew,f0,f1,f2,f3,f4⟩) (fun hHeld=> ?_);refine tK 0 3 rfl ?_;refine tK 1 4 rfl ?_;refine hO 2 (some 5) rfl fun K hK=> ?_;go_simp;refine(between_yes R.m 1 2147483647 _ H1.out).mono ?_;rintro e w2 ⟨rfl,rfl⟩;refine hK.out _ _ (by exact hHeld) (fun hHeld=>tS ?_);clear hK K;refine tK 3 6 rfl ?_;refine tK 4 7 rfl ?_;refine tK 5 8 rfl ?_;refine hO 6 (some 9) rfl fun K hK=> ?_
 go_simp;refine(between_yes R.l 1 2147483647 _ H2.out).mono ?_;rintro e w2 ⟨rfl,rfl⟩;refine hK.out _ _ (by exact hHeld) (fun hHeld=>tS ?_);clear hK K;refine tK 7 10 rfl ?_;refine tK 8 11 rfl ?_;refine tK 9 12 rfl ?_;refine tK 10 13 rfl ?_;refine hO 11 (some 14) rfl fun K hK=> ?_;go_simp;refine(between_no R.p 0 4294967295 _ H3.out).mono ?_;rintro e w2 ⟨rfl,rfl⟩;refine hK.out _ _ (by exact hHeld) (fun hHeld=>tS ?_);clear hK K;refine tK 12 15 rfl ?_;refine tK 13 16 rfl ?_;refine tU 14 17 rfl ?_;refine tU 15 18 rfl ?_;refine tU 16 19 rfl ?_;refine tK 17 20 rfl ?_;refine tK 18 21 rfl ?_;refine tU 19 22 rfl ?_;refine tU 20 23 rfl ?_;refine tU 21 24 rfl ?_;refine tU 22 25 rfl ?_;refine tU 23 26 rfl ?_;refine tU 24 27 rfl ?_;refine tU 25 28 rfl ?_;refine tK 26 29 rfl ?_;refine tK 27 30 rfl ?_;refine tU 28 31 rfl ?_;refine tU 29 32 rfl ?_;refine tU 30 33 rfl ?_;refine tK 31 34 rfl ?_;refine tK 32 2 rfl ?_;refine wpAnyH_done (by kernel_rfl) ?_ _;refine NoPanic.normal ?_;go_wp2;go_ret;exact⟨by rw[HF.out];rfl,HK1.out.trans hHeld.1 (by simp)⟩

theorem may_i (R:Rc)(L A:Option Addr)(n c k d:Nat)(w:World)(h:RcAt w L n A k R)(h1:1≤R.m∧R.m≤2147483647)(h2:1≤R.l∧R.l≤2147483647)(h3:0≤R.p∧R.p≤4294967295)(h4:mayIts R.its=false):
  Calls Tryz.prog 208 #[.agg #[.int .i64 R.m,.int .i64 R.l,.int .i64 R.p,.slice L n c,.slice A k d]] w fun e w'=>e= .returned (.bool R.may)∧Kept [] w w':=by
 have hk1:=(Kept.refl [] w).alloc (.cells #[.int .i64 R.m,.int .i64 R.l,.int .i64 R.p,.slice L n c,.slice A k d] 111);have hb1:=Blk.new w 111 #[.int .i64 R.m,.int .i64 R.l,.int .i64 R.p,.slice L n c,.slice A k d];obtain⟨g,hg⟩:∃ g,w.heap.size=g:=⟨_,rfl⟩;rw[hg]at hb1;have f0:=hb1.cell 0;have f1:=hb1.cell 1;have f2:=hb1.cell 2;have f3:=hb1.cell 3;have f4:=hb1.cell 4;have HI:=hide (h.its.kept hk1 (by simp));have HP:=hide (h.bks.kept hk1);have HN:=hide h.hn;have HKN:=hide h.hk;have HK1:=hide hk1;have H1:=hide h1;have H2:=hide h2;have H3:=hide h3;have H4:=hide h4;have HF:Hid (R.may=false):=hide ((Rc.may_no R).2 (fun hn=>by have:=((ok_iff R).1 hn).2.2.2.1;rw[h4]at this;cases this));clear hk1 hb1 h h1 h2 h3 h4;go_enter Tryz.func208,Tryz.ntmps208;go_wp2;generalize hw1:w.alloc (.cells #[.int .i64 R.m,.int .i64 R.l,.int .i64 R.p,.slice L n c,.slice A k d] 111)=w1 at*;clear hw1;refine wp_region_noPanic ?_;refine wp_region_held_drew (S:=fun W=>Kept [] w1 W∧W.cell? ⟨g,0,none⟩=some (.int .i64 R.m)∧W.cell? ⟨g,1,none⟩=some (.int .i64 R.l)∧W.cell? ⟨g,2,none⟩=some (.int .i64 R.p)∧W.cell? ⟨g,3,none⟩=some (.slice L n c)∧W.cell? ⟨g,4,none⟩=some (.slice A k d)) (by kernel_rfl) (by exact⟨(Kept.refl _ w1).drew,f0,f1,f2,f3,f4⟩) (fun hHeld=> ?_);refine tK 0 3 rfl ?_;refine tK 1 4 rfl ?_;refine hO 2 (some 5) rfl fun K hK=> ?_;go_simp;refine(between_yes R.m 1 2147483647 _ H1.out).mono ?_;rintro e w2 ⟨rfl,rfl⟩;refine hK.out _ _ (by exact hHeld) (fun hHeld=>tS ?_);clear hK K;refine tK 3 6 rfl ?_;refine tK 4 7 rfl ?_
 refine tK 5 8 rfl ?_;refine hO 6 (some 9) rfl fun K hK=> ?_;go_simp;refine(between_yes R.l 1 2147483647 _ H2.out).mono ?_;rintro e w2 ⟨rfl,rfl⟩;refine hK.out _ _ (by exact hHeld) (fun hHeld=>tS ?_);clear hK K;refine tK 7 10 rfl ?_;refine tK 8 11 rfl ?_;refine tK 9 12 rfl ?_;refine tK 10 13 rfl ?_;refine hO 11 (some 14) rfl fun K hK=> ?_;go_simp;refine(between_yes R.p 0 4294967295 _ H3.out).mono ?_;rintro e w2 ⟨rfl,rfl⟩;refine hK.out _ _ (by exact hHeld) (fun hHeld=>tS ?_);clear hK K;refine tK 12 15 rfl ?_;refine tK 13 16 rfl ?_;refine tK 14 17 rfl ?_;refine tK 15 18 rfl ?_;refine hO 16 (some 19) rfl fun K hK=> ?_;go_simp;refine(mayItems_any L n c R.its _ (HI.out.kept hHeld.1 (by simp)) HN.out).mono ?_;rintro e w3 ⟨rfl,hk3⟩;rw[H4.out];refine hK.out _ _ (by exact held5 hHeld hk3) (fun hHeld=>tS ?_);clear hK K;refine tK 17 20 rfl ?_;refine tK 18 21 rfl ?_;refine tU 19 22 rfl ?_;refine tU 20 23 rfl ?_;refine tU 21 24 rfl ?_;refine tU 22 25 rfl ?_;refine tU 23 26 rfl ?_;refine tU 24 27 rfl ?_;refine tU 25 28 rfl ?_;refine tK 26 29 rfl ?_;refine tK 27 30 rfl ?_;refine tU 28 31 rfl ?_;refine tU 29 32 rfl ?_;refine tU 30 33 rfl ?_;refine tK 31 34 rfl ?_;refine tK 32 2 rfl ?_;refine wpAnyH_done (by kernel_rfl) ?_ _;refine NoPanic.normal ?_;go_wp2;go_ret;exact⟨by rw[HF.out];rfl,HK1.out.trans hHeld.1 (by simp)⟩

theorem may_c (R:Rc)(L A:Option Addr)(n c k d:Nat)(w:World)(h:RcAt w L n A k R)(h1:1≤R.m∧R.m≤2147483647)(h2:1≤R.l∧R.l≤2147483647)(h3:0≤R.p∧R.p≤4294967295)(h4:mayIts R.its=true)(h5:count R.its≠R.bks.length):
  Calls Tryz.prog 208 #[.agg #[.int .i64 R.m,.int .i64 R.l,.int .i64 R.p,.slice L n c,.slice A k d]] w fun e w'=>e= .returned (.bool R.may)∧Kept [] w w':=by
 have hk1:=(Kept.refl [] w).alloc (.cells #[.int .i64 R.m,.int .i64 R.l,.int .i64 R.p,.slice L n c,.slice A k d] 111);have hb1:=Blk.new w 111 #[.int .i64 R.m,.int .i64 R.l,.int .i64 R.p,.slice L n c,.slice A k d];obtain⟨g,hg⟩:∃ g,w.heap.size=g:=⟨_,rfl⟩;rw[hg]at hb1;have f0:=hb1.cell 0;have f1:=hb1.cell 1;have f2:=hb1.cell 2;have f3:=hb1.cell 3;have f4:=hb1.cell 4;have HI:=hide (h.its.kept hk1 (by simp));have HP:=hide (h.bks.kept hk1);have HN:=hide h.hn;have HKN:=hide h.hk;have HK1:=hide hk1;have H1:=hide h1;have H2:=hide h2;have H3:=hide h3;have H4:=hide h4
 have hn6:n≤6:=by
  have:=h4
  unfold mayIts at this;rw[Bool.and_eq_true,decide_eq_true_iff,h.hn]at this;exact this.1.2
 obtain⟨q,hq⟩:∃ q,count R.its=q:=⟨_,rfl⟩;have HC:=hide hq
 have hq6:q≤n:=by rw[←hq,←h.hn];exact count_le _
 have hqk:((k:Int)==(q:Int))=false:=beq_eq_false_iff_ne.2 (by rw[hq,h.hk]at h5;omega);have HF:Hid (R.may=false):=hide ((Rc.may_no R).2 (fun hn=>h5 ((ok_iff R).1 hn).2.2.2.2.1));clear hk1 hb1 h h1 h2 h3 h4 h5 hq;go_enter Tryz.func208,Tryz.ntmps208;go_wp2;generalize hw1:w.alloc (.cells #[.int .i64 R.m,.int .i64 R.l,.int .i64 R.p,.slice L n c,.slice A k d] 111)=w1 at*;clear hw1;refine wp_region_noPanic ?_;refine wp_region_held_drew (S:=fun W=>Kept [] w1 W∧W.cell? ⟨g,0,none⟩=some (.int .i64 R.m)∧W.cell? ⟨g,1,none⟩=some (.int .i64 R.l)∧W.cell? ⟨g,2,none⟩=some (.int .i64 R.p)∧W.cell? ⟨g,3,none⟩=some (.slice L n c)∧W.cell? ⟨g,4,none⟩=some (.slice A k d)) (by kernel_rfl) (by exact⟨(Kept.refl _ w1).drew,f0,f1,f2,f3,f4⟩) (fun hHeld=> ?_);refine tK 0 3 rfl ?_;refine tK 1 4 rfl ?_;refine hO 2 (some 5) rfl fun K hK=> ?_;go_simp;refine(between_yes R.m 1 2147483647 _ H1.out).mono ?_;rintro e w2 ⟨rfl,rfl⟩;refine hK.out _ _ (by exact hHeld) (fun hHeld=>tS ?_);clear hK K;refine tK 3 6 rfl ?_;refine tK 4 7 rfl ?_;refine tK 5 8 rfl ?_;refine hO 6 (some 9) rfl fun K hK=> ?_;go_simp;refine(between_yes R.l 1 2147483647 _ H2.out).mono ?_;rintro e w2 ⟨rfl,rfl⟩;refine hK.out _ _ (by exact hHeld) (fun hHeld=>tS ?_);clear hK K;refine tK 7 10 rfl ?_;refine tK 8 11 rfl ?_;refine tK 9 12 rfl ?_;refine tK 10 13 rfl ?_;refine hO 11 (some 14) rfl fun K hK=> ?_;go_simp;refine(between_yes R.p 0 4294967295 _ H3.out).mono ?_;rintro e w2 ⟨rfl,rfl⟩;refine hK.out _ _ (by exact hHeld) (fun hHeld=>tS ?_);clear hK K;refine tK 12 15 rfl ?_
 refine tK 13 16 rfl ?_;refine tK 14 17 rfl ?_;refine tK 15 18 rfl ?_;refine hO 16 (some 19) rfl fun K hK=> ?_;go_simp;refine(mayItems_any L n c R.its _ (HI.out.kept hHeld.1 (by simp)) HN.out).mono ?_;rintro e w3 ⟨rfl,hk3⟩;rw[H4.out];refine hK.out _ _ (by exact held5 hHeld hk3) (fun hHeld=>tS ?_);clear hK K;refine tK 17 20 rfl ?_;refine tK 18 21 rfl ?_;refine tK 19 22 rfl ?_;refine tK 20 23 rfl ?_;refine tK 21 24 rfl ?_;refine tK 22 25 rfl ?_;refine tK 23 26 rfl ?_;refine hO 24 (some 27) rfl fun K hK=> ?_;go_simp;refine(loaded_all L n c R.its _ (HI.out.kept hHeld.1 (by simp)) HN.out (by omega)).mono ?_;rintro e w4 ⟨rfl,hk4⟩;rw[HC.out];refine hK.out _ _ (by exact held5 hHeld hk4) (fun hHeld=>tS ?_);clear hK K;refine tK 25 28 rfl ?_;refine tK 26 29 rfl ?_;refine tK 27 30 rfl ?_;refine tU 28 31 rfl ?_;refine tU 29 32 rfl ?_;refine tU 30 33 rfl ?_;refine tK 31 34 rfl ?_;refine tK 32 2 rfl ?_;refine wpAnyH_done (by kernel_rfl) ?_ _;refine NoPanic.normal ?_;go_wp2;go_ret;exact⟨by rw[HF.out];rfl,HK1.out.trans hHeld.1 (by simp)⟩

theorem may_w (R:Rc)(L A:Option Addr)(n c k d:Nat)(w:World)(h:RcAt w L n A k R)(h1:1≤R.m∧R.m≤2147483647)(h2:1≤R.l∧R.l≤2147483647)(h3:0≤R.p∧R.p≤4294967295)(h4:mayIts R.its=true)(h5:count R.its=R.bks.length):
  Calls Tryz.prog 208 #[.agg #[.int .i64 R.m,.int .i64 R.l,.int .i64 R.p,.slice L n c,.slice A k d]] w fun e w'=>e= .returned (.bool R.may)∧Kept [] w w':=by
 have hk1:=(Kept.refl [] w).alloc (.cells #[.int .i64 R.m,.int .i64 R.l,.int .i64 R.p,.slice L n c,.slice A k d] 111);have hb1:=Blk.new w 111 #[.int .i64 R.m,.int .i64 R.l,.int .i64 R.p,.slice L n c,.slice A k d];obtain⟨g,hg⟩:∃ g,w.heap.size=g:=⟨_,rfl⟩;rw[hg]at hb1;have f0:=hb1.cell 0;have f1:=hb1.cell 1;have f2:=hb1.cell 2;have f3:=hb1.cell 3;have f4:=hb1.cell 4;have HI:=hide (h.its.kept hk1 (by simp));have HP:=hide (h.bks.kept hk1);have HN:=hide h.hn;have HKN:=hide h.hk;have HK1:=hide hk1;have H1:=hide h1;have H2:=hide h2;have H3:=hide h3;have H4:=hide h4
 have hn6:n≤6:=by
  have:=h4
  unfold mayIts at this;rw[Bool.and_eq_true,decide_eq_true_iff,h.hn]at this;exact this.1.2
 obtain⟨q,hq⟩:∃ q,count R.its=q:=⟨_,rfl⟩;have HC:=hide hq
 have hq6:q≤n:=by rw[←hq,←h.hn];exact count_le _
 obtain rfl:k=q:=by rw[←hq,h5,h.hk]
 have HT:Hid (R.may=decide (all64 R.bks)):=hide (decide_eq_decide.2 ⟨fun hn=>((ok_iff R).1 hn).2.2.2.2.2,fun hn=>(ok_iff R).2 ⟨h1,h2,h3,h4,h5,hn⟩⟩);clear hk1 hb1 h h1 h2 h3 h4 h5 hq;go_enter Tryz.func208,Tryz.ntmps208;go_wp2;generalize hw1:w.alloc (.cells #[.int .i64 R.m,.int .i64 R.l,.int .i64 R.p,.slice L n c,.slice A k d] 111)=w1 at*;clear hw1;refine wp_region_noPanic ?_;refine wp_region_held_drew (S:=fun W=>Kept [] w1 W∧W.cell? ⟨g,0,none⟩=some (.int .i64 R.m)∧W.cell? ⟨g,1,none⟩=some (.int .i64 R.l)∧W.cell? ⟨g,2,none⟩=some (.int .i64 R.p)∧W.cell? ⟨g,3,none⟩=some (.slice L n c)∧W.cell? ⟨g,4,none⟩=some (.slice A k d)) (by kernel_rfl) (by exact⟨(Kept.refl _ w1).drew,f0,f1,f2,f3,f4⟩) (fun hHeld=> ?_);refine tK 0 3 rfl ?_;refine tK 1 4 rfl ?_;refine hO 2 (some 5) rfl fun K hK=> ?_;go_simp;refine(between_yes R.m 1 2147483647 _ H1.out).mono ?_;rintro e w2 ⟨rfl,rfl⟩;refine hK.out _ _ (by exact hHeld) (fun hHeld=>tS ?_);clear hK K;refine tK 3 6 rfl ?_;refine tK 4 7 rfl ?_;refine tK 5 8 rfl ?_;refine hO 6 (some 9) rfl fun K hK=> ?_;go_simp;refine(between_yes R.l 1 2147483647 _ H2.out).mono ?_;rintro e w2 ⟨rfl,rfl⟩;refine hK.out _ _ (by exact hHeld) (fun hHeld=>tS ?_);clear hK K;refine tK 7 10 rfl ?_;refine tK 8 11 rfl ?_;refine tK 9 12 rfl ?_;refine tK 10 13 rfl ?_;refine hO 11 (some 14) rfl fun K hK=> ?_;go_simp;refine(between_yes R.p 0 4294967295 _ H3.out).mono ?_;rintro e w2 ⟨rfl,rfl⟩;refine hK.out _ _ (by exact hHeld) (fun hHeld=>tS ?_);clear hK K;refine tK 12 15 rfl ?_;refine tK 13 16 rfl ?_
 refine tK 14 17 rfl ?_;refine tK 15 18 rfl ?_;refine hO 16 (some 19) rfl fun K hK=> ?_;go_simp;refine(mayItems_any L n c R.its _ (HI.out.kept hHeld.1 (by simp)) HN.out).mono ?_;rintro e w3 ⟨rfl,hk3⟩;rw[H4.out];refine hK.out _ _ (by exact held5 hHeld hk3) (fun hHeld=>tS ?_);clear hK K;refine tK 17 20 rfl ?_;refine tK 18 21 rfl ?_;refine tK 19 22 rfl ?_;refine tK 20 23 rfl ?_;refine tK 21 24 rfl ?_;refine tK 22 25 rfl ?_;refine tK 23 26 rfl ?_;refine hO 24 (some 27) rfl fun K hK=> ?_;go_simp;refine(loaded_all L n c R.its _ (HI.out.kept hHeld.1 (by simp)) HN.out (by omega)).mono ?_;rintro e w4 ⟨rfl,hk4⟩;rw[HC.out];refine hK.out _ _ (by exact held5 hHeld hk4) (fun hHeld=>tS ?_);clear hK K;refine tK 25 28 rfl ?_;refine tK 26 29 rfl ?_;refine tK 27 30 rfl ?_;refine tK 28 31 rfl ?_;refine tK 29 32 rfl ?_;refine hO 30 (some 33) rfl fun K hK=> ?_;go_simp;refine(allWhole_any A k d R.bks _ (HP.out.kept hHeld.1) HKN.out (by omega)).mono ?_;rintro e w5 ⟨rfl,rfl⟩;refine hK.out _ _ (by exact hHeld) (fun hHeld=>tS ?_);clear hK K;refine tK 31 34 rfl ?_;refine tK 32 2 rfl ?_;refine wpAnyH_done (by kernel_rfl) ?_ _;refine NoPanic.normal ?_;go_wp2;go_ret;exact⟨by rw[HT.out];rfl,HK1.out.trans hHeld.1 (by simp)⟩

theorem may_any (R:Rc)(L A:Option Addr)(n c k d:Nat)(w:World)(h:RcAt w L n A k R):
  Calls Tryz.prog 208 #[.agg #[.int .i64 R.m,.int .i64 R.l,.int .i64 R.p,.slice L n c,.slice A k d]] w fun e w'=>e= .returned (.bool R.may)∧Kept [] w w':=by
 by_cases h1:1≤R.m∧R.m≤2147483647
 ·by_cases h2:1≤R.l∧R.l≤2147483647
  ·by_cases h3:0≤R.p∧R.p≤4294967295
   ·cases h4:mayIts R.its
    ·exact may_i R L A n c k d w h h1 h2 h3 h4
    ·by_cases h5:count R.its=R.bks.length
     ·exact may_w R L A n c k d w h h1 h2 h3 h4 h5
     ·exact may_c R L A n c k d w h h1 h2 h3 h4 h5
   ·exact may_p R L A n c k d w h h1 h2 h3
  ·exact may_l R L A n c k d w h h1 h2
 ·exact may_m R L A n c k d w h h1
end Go.Proofs.YtjkmahmoclobmaaGreat.record
namespace Go.Proofs.YtjkmahmoclobmaaGreat.record
open Go.RowKit mem row rowBack fill crc crcMath super item
def q0 (bs:List UInt8):Row:=(Row.take ⟨bs,0⟩ 2).2.2
def q1 (bs:List UInt8):Row:=((q0 bs).get 4).2.2
def q2 (bs:List UInt8):Row:=((q1 bs).get 4).2.2
def q3 (bs:List UInt8):Row:=((q2 bs).get 4).2.2
def q4 (bs:List UInt8):Row:=((q3 bs).get 1).2.2
def q5 (bs:List UInt8):Row:=((q4 bs).get 1).2.2
def cm (bs:List UInt8):Int:=((q0 bs).get 4).1
def cl (bs:List UInt8):Int:=((q1 bs).get 4).1
def cp (bs:List UInt8):Int:=((q2 bs).get 4).1
def cn (bs:List UInt8):Int:=((q3 bs).get 1).1
def ck (bs:List UInt8):Int:=((q4 bs).get 1).1
theorem q1_eq (bs:List UInt8):((q0 bs).get 4).2.2=q1 bs:=by simp only[q1]
theorem q2_eq (bs:List UInt8):((q1 bs).get 4).2.2=q2 bs:=by simp only[q2]
theorem q3_eq (bs:List UInt8):((q2 bs).get 4).2.2=q3 bs:=by simp only[q3]
theorem q4_eq (bs:List UInt8):((q3 bs).get 1).2.2=q4 bs:=by simp only[q4]
theorem q5_eq (bs:List UInt8):((q4 bs).get 1).2.2=q5 bs:=by simp only[q5]
theorem cm_eq (bs:List UInt8):((q0 bs).get 4).1=cm bs:=by simp only[cm]
theorem cl_eq (bs:List UInt8):((q1 bs).get 4).1=cl bs:=by simp only[cl]
theorem cp_eq (bs:List UInt8):((q2 bs).get 4).1=cp bs:=by simp only[cp]
theorem cn_eq (bs:List UInt8):((q3 bs).get 1).1=cn bs:=by simp only[cn]
theorem ck_eq (bs:List UInt8):((q4 bs).get 1).1=ck bs:=by simp only[ck]
theorem cn_bd (bs:List UInt8):0≤cn bs∧cn bs<256:=by
 have:=get_bd (q3 bs) 1
 rw[show((1:Nat):Int)=1 from rfl,cn_eq,Int.pow_one]at this;exact this
theorem ck_bd (bs:List UInt8):0≤ck bs∧ck bs<256:=by
 have:=get_bd (q4 bs) 1
 rw[show((1:Nat):Int)=1 from rfl,ck_eq,Int.pow_one]at this;exact this
def after (R:Row):Nat→Row
 | 0=>R
 | i+1=>((after R i).take 64).2.2
def taken (R:Row)(i:Nat):List UInt8:=((after R i).take 64).1
def takes (R:Row)(k:Nat):List (List UInt8):=(List.range k).map (taken R)
theorem takes_len (R:Row)(k:Nat):(takes R k).length=k:=by simp [takes]
theorem takes_succ (R:Row)(k:Nat):takes R (k+1)=takes R k++[taken R k]:=by simp [takes,List.range_succ]
def sm (bs:List UInt8):List UInt8:=(Row.take ⟨bs,0⟩ 64).1
def a1 (bs:List UInt8):Row:=(Row.take ⟨bs,0⟩ 64).2.2
def raw (s:List UInt8):List UInt8:=((q5 s).take (7*cn s)).1
def readC (bs:List UInt8):Rc:=⟨cm (sm bs),cl (sm bs),cp (sm bs),(item.decode (raw (sm bs))).1,takes (a1 bs) (ck (sm bs)).toNat⟩

theorem take_yes (bs:List UInt8)(p:Nat)(n:Int)(h0:0≤n)(h:(p:Int)+n≤bs.length):Row.take ⟨bs,p⟩ n=((bs.drop p).take n.toNat,true,⟨bs,p+n.toNat⟩):=if_pos ⟨h0,h⟩
theorem sm_eq (bs:List UInt8)(h:64≤bs.length):sm bs=bs.take 64:=by
 unfold sm;rw[take_yes bs 0 64 (by omega) (by omega)]
 rfl
theorem a1_eq (bs:List UInt8)(h:64≤bs.length):a1 bs=⟨bs,64⟩:=by
 unfold a1;rw[take_yes bs 0 64 (by omega) (by omega)]
 rfl
theorem sum_parts (s:List UInt8)(h:s.length=64):(cm s=numAt s 2 4∧cl s=numAt s 6 4∧cp s=numAt s 10 4∧cn s=numAt s 14 1∧ck s=numAt s 15 1)∧q5 s=⟨s,16⟩:=by
 have e0:q0 s=⟨s,2⟩:=by
  unfold q0;rw[take_yes s 0 2 (by omega) (by omega)]
  rfl
 have g:∀ p x:Nat,isW (x:Int)=true→p+x≤64→Row.get ⟨s,p⟩ x=(numAt s p x,true,⟨s,p+x⟩):=fun p x hx hp=>get_at_ok s p x hx (by omega)
 have e1:q1 s=⟨s,6⟩:=by unfold q1;rw[e0];rw[show((4:Int))=((4:Nat):Int)from rfl,g 2 4 rfl (by omega)]
 have e2:q2 s=⟨s,10⟩:=by unfold q2;rw[e1];rw[show((4:Int))=((4:Nat):Int)from rfl,g 6 4 rfl (by omega)]
 have e3:q3 s=⟨s,14⟩:=by unfold q3;rw[e2];rw[show((4:Int))=((4:Nat):Int)from rfl,g 10 4 rfl (by omega)]
 have e4:q4 s=⟨s,15⟩:=by unfold q4;rw[e3];rw[show((1:Int))=((1:Nat):Int)from rfl,g 14 1 rfl (by omega)]
 have e5:q5 s=⟨s,16⟩:=by unfold q5;rw[e4];rw[show((1:Int))=((1:Nat):Int)from rfl,g 15 1 rfl (by omega)]
 refine⟨⟨?_,?_,?_,?_,?_⟩,e5⟩
 ·unfold cm;rw[e0];rw[show((4:Int))=((4:Nat):Int)from rfl,g 2 4 rfl (by omega)]
 ·unfold cl;rw[e1];rw[show((4:Int))=((4:Nat):Int)from rfl,g 6 4 rfl (by omega)]
 ·unfold cp;rw[e2];rw[show((4:Int))=((4:Nat):Int)from rfl,g 10 4 rfl (by omega)]
 ·unfold cn;rw[e3];rw[show((1:Int))=((1:Nat):Int)from rfl,g 14 1 rfl (by omega)]
 ·unfold ck;rw[e4];rw[show((1:Int))=((1:Nat):Int)from rfl,g 15 1 rfl (by omega)]
theorem numAt_pos (bs:List UInt8)(p x:Nat):0≤numAt bs p x:=(numOf_bd _).1
theorem after_at (bs:List UInt8)(k:Nat)(h:bs.length=64*(1+k)):∀ i,i≤k→after ⟨bs,64⟩ i=⟨bs,64*(i+1)⟩
 | 0,_=>rfl
 | i+1,hi=>by
  unfold after;rw[after_at bs k h i (by omega),take_yes bs (64*(i+1)) 64 (by omega) (by omega)];simp only[Row.mk.injEq,true_and]
  omega
theorem takes_at (bs:List UInt8)(k:Nat)(h:bs.length=64*(1+k)):takes ⟨bs,64⟩ k=blocksOf bs k:=by
 unfold takes blocksOf;refine List.map_congr_left fun i hi=> ?_;have hi:=List.mem_range.1 hi;unfold taken;rw[after_at bs k h i (by omega),take_yes bs (64*(i+1)) 64 (by omega) (by omega)]
 rfl
theorem raw_at (s:List UInt8)(h:s.length=64)(hn:nOf s≤6):raw s=rawOf s:=by
 obtain⟨⟨_,_,_,e,_⟩,e5⟩:=sum_parts s h;have hp:=numAt_pos s 14 1;unfold nOf at hn;unfold raw rawOf nOf;rw[e5,e];generalize numAt s 14 1=y at hp hn ⊢
 have h7:(7*y).toNat=7*y.toNat:=by omega
 rw[take_yes s 16 _ (by omega) (by omega),h7]
theorem rawOf_take (bs:List UInt8)(hn:nOf bs≤6):rawOf (bs.take 64)=rawOf bs:=by
 unfold rawOf;rw[nOf_take,List.drop_take,List.take_take,Nat.min_eq_left (by omega)]
theorem readC_bytes {T:Rc}(h:T.ok):readC T.bytes=T:=by
 have hl:=T.bytes_len h;obtain⟨⟨g1,g2,g3⟩,⟨en,ek⟩,g6,g7⟩:=read_parts h;have h6:=h.2.2.2.1.2;generalize T.bytes=bs at*
 have h64:64≤bs.length:=by omega
 have hs:(bs.take 64).length=64:=by rw[List.length_take];omega
 obtain⟨⟨e1,e2,e3,e4,e5⟩,_⟩:=sum_parts (bs.take 64) hs
 have hk:(ck (bs.take 64)).toNat=T.bks.length:=by
  rw[e5,numAt_take _ _ _ _ (by omega)];exact ek
 unfold readC
 rw[sm_eq bs h64,a1_eq bs h64,hk,takes_at bs _ hl,g7,e1,e2,e3,numAt_take _ _ _ _ (by omega),numAt_take _ _ _ _ (by omega),numAt_take _ _ _ _ (by omega),g1,g2,g3,
  raw_at _ hs (by rw[nOf_take];omega),rawOf_take bs (by omega),g6,decode_laid _ h6 h.2.2.2.2.1]
end Go.Proofs.YtjkmahmoclobmaaGreat.record
namespace Go.Proofs.YtjkmahmoclobmaaGreat.record
open Go.RowKit mem base row rowBack fill crc crcMath super item
section
variable {w a:World}{g:Nat}{t:TypeId}{S:List Nat}{a0 a1 a2 a3 a4:Value}
theorem put5 (v0 v1 v2 v3 v4:Value)(h:Blk w g t #[a0,a1,a2,a3,a4]):Blk (((((w.setCell ⟨g,0,none⟩ v0).setCell ⟨g,1,none⟩ v1).setCell ⟨g,2,none⟩ v2).setCell ⟨g,3,none⟩ v3).setCell ⟨g,4,none⟩ v4) g t #[v0,v1,v2,v3,v4]:=
 (((((h.set_ 0 v0).set_ 1 v1).set_ 2 v2).set_ 3 v3).set_ 4 v4)
theorem put5_kept (v0 v1 v2 v3 v4:Value)(h:Kept S a w)(hg:g∈S∨a.heap.size≤g):Kept S a (((((w.setCell ⟨g,0,none⟩ v0).setCell ⟨g,1,none⟩ v1).setCell ⟨g,2,none⟩ v2).setCell ⟨g,3,none⟩ v3).setCell ⟨g,4,none⟩ v4):=
 (((((h.set_ hg 0 v0).set_ hg 1 v1).set_ hg 2 v2).set_ hg 3 v3).set_ hg 4 v4)
theorem cell5 (h:Blk w g t #[a0,a1,a2,a3,a4]):w.cell? ⟨g,0,none⟩=some a0∧w.cell? ⟨g,1,none⟩=some a1∧w.cell? ⟨g,2,none⟩=some a2∧w.cell? ⟨g,3,none⟩=some a3∧w.cell? ⟨g,4,none⟩=some a4:=
 ⟨h.cell 0,h.cell 1,h.cell 2,h.cell 3,h.cell 4⟩
end
theorem sget_any (p b cap:Nat)(A:Option Addr)(R R':Row)(x y:Int)(w:World)(h:RowAt w p b cap A R)(hR:(R.get x).2.2=R')(hy:(R.get x).1=y):
  Calls Tryz.prog 241 #[.pointer (some ⟨p,0,none⟩),.int .i64 x] w fun e w'=>e= .returned (.int .i64 y)∧RowAt w' p b cap A R'∧Kept [p] w w':=by
 have H:=hide h;have HY:=hide hy;have HRR:=hide hR;clear h hy hR;go_enter Tryz.func241,Tryz.ntmps241;go_wp2_with fail;refine(row.get_at p b cap A R x _ H.out).mono ?_;rintro e w1 ⟨rfl,hr,hk⟩;rw[HRR.out]at hr;rw[HY.out];have HR:=hide hr;have HK:=hide hk;clear hr hk;go_wp2;go_ret;exact⟨rfl,HR.out,HK.out⟩

theorem readLead_any (p b cap:Nat)(A:Option Addr)(bs:List UInt8)(w:World)(h:RowAt w p b cap A ⟨bs,0⟩)(hbl:b<w.heap.size):
  Calls Tryz.prog 233 #[.pointer (some ⟨p,0,none⟩)] w fun e w'=>
   e= .returned (.tuple #[.agg #[.int .i64 (cm bs),.int .i64 (cl bs),.int .i64 (cp bs),.slice none 0 0,.slice none 0 0],.int .i64 (cn bs),.int .i64 (ck bs)])∧RowAt w' p b cap A (q5 bs)∧Kept [p] w w':=by
 have hp:=h.lt;have hk0:=(Kept.refl [p] w).alloc (.cells #[.int .i64 0,.int .i64 0,.int .i64 0,.slice none 0 0,.slice none 0 0] 111);have hb0:=Blk.new w 111 #[.int .i64 0,.int .i64 0,.int .i64 0,.slice none 0 0,.slice none 0 0];have hlt:=hb0.lt;obtain⟨g,hg⟩:∃ g,w.heap.size=g:=⟨_,rfl⟩;have HG:=hide (Nat.le_of_eq hg);rw[hg]at hb0 hp hlt hbl;have HR0:Hid (RowAt (w.alloc (.cells #[.int .i64 0,.int .i64 0,.int .i64 0,.slice none 0 0,.slice none 0 0] 111)) p b cap A ⟨bs,0⟩):=hide (h.kept (S:=[]) ((Kept.refl [] w).alloc _) (by simp) (by simp));have HB0:=hide hb0;have HK0:=hide hk0;clear hb0 hk0 h;go_enter Tryz.func233,Tryz.ntmps233;go_wp2_with fail;refine(take_at p b cap A _ 2 _ HR0.out).mono ?_;rintro e w1 ⟨A1,c1,rfl,_,hr,hk⟩;have HR1:Hid (RowAt w1 p b cap A (q0 bs)):=hide hr;have HK1:=hide (HK0.out.trans hk (by simp));have HB1:=hide (hk.blk HB0.out (by simp;omega));clear hr hk HR0 HK0 HB0;go_wp2_with fail;refine(sget_any p b cap A _ _ 4 _ _ HR1.out (q1_eq bs) (cm_eq bs)).mono ?_;rintro e w2 ⟨rfl,hr,hk⟩;have HR2:=hide hr;have HK2:=hide (HK1.out.trans hk (by simp));have HB2:=hide (hk.blk HB1.out (by simp;omega));clear hr hk HR1 HK1 HB1;go_wp2_with fail;refine(sget_any p b cap A _ _ 4 _ _ HR2.out (q2_eq bs) (cl_eq bs)).mono ?_;rintro e w3 ⟨rfl,hr,hk⟩;have HR3:=hide hr;have HK3:=hide (HK2.out.trans hk (by simp));have HB3:=hide (hk.blk HB2.out (by simp;omega));clear hr hk HR2 HK2 HB2;go_wp2_with fail;refine(sget_any p b cap A _ _ 4 _ _ HR3.out (q3_eq bs) (cp_eq bs)).mono ?_;rintro e w4 ⟨rfl,hr,hk⟩
 obtain⟨x1,hx1⟩:∃ x,cm bs=x:=⟨_,rfl⟩;obtain⟨x2,hx2⟩:∃ x,cl bs=x:=⟨_,rfl⟩;obtain⟨x3,hx3⟩:∃ x,cp bs=x:=⟨_,rfl⟩;rw[hx1,hx2,hx3];have HX1:=hide hx1;have HX2:=hide hx2;have HX3:=hide hx3;have hb5:=Blk.new w4 111 #[.int .i64 x1,.int .i64 x2,.int .i64 x3,.slice none 0 0,.slice none 0 0];have hk5:=(Kept.refl [] w4).alloc (.cells #[.int .i64 x1,.int .i64 x2,.int .i64 x3,.slice none 0 0,.slice none 0 0] 111);have HS5:=hide hb5;have HR5:=hide (hr.kept hk5 (by simp) (by simp));have HK5:=hide ((HK3.out.trans hk (by simp)).trans hk5 (by simp));have HB5:=hide (hk5.blk (hk.blk HB3.out (by simp;omega)) (by simp));have hps:p<w4.heap.size:=hr.lt;clear hr hk HR3 HK3 HB3 hb5 hk5 hx1 hx2 hx3;go_wp2_with fail;refine(sget_any p b cap A _ _ 1 _ _ HR5.out (q4_eq bs) (cn_eq bs)).mono ?_;rintro e w6 ⟨rfl,hr,hk⟩;have HR6:=hide hr;have HK6:=hide (HK5.out.trans hk (by simp));have HB6:=hide (hk.blk HB5.out (by simp;omega));have HS6:=hide (hk.blk HS5.out (by simp;omega));clear hr hk HR5 HK5 HB5 HS5;go_wp2_with fail;refine(sget_any p b cap A _ _ 1 _ _ HR6.out (q5_eq bs) (ck_eq bs)).mono ?_;rintro e w7 ⟨rfl,hr,hk⟩;have HR7:=hide hr;have HK7:=hide (HK6.out.trans hk (by simp));have HB7:=hide (hk.blk HB6.out (by simp;omega));have HS7:=hide (hk.blk HS6.out (by simp;omega));clear hr hk HR6 HK6 HB6 HS6;obtain⟨s,hs⟩:∃ s,w4.heap.size=s:=⟨_,rfl⟩;rw[hs]at HS7 hps;obtain⟨c0,c1,c2,c3,c4⟩:=cell5 HS7.out;obtain⟨d0,d1,d2,d3,d4⟩:=cell5 HB7.out;have f0:=HB7.out.frozen 0;have f1:=HB7.out.frozen 1;have f2:=HB7.out.frozen 2;have f3:=HB7.out.frozen 3
 have f4:=HB7.out.frozen 4;have HBW:=hide (put5 (.int .i64 x1) (.int .i64 x2) (.int .i64 x3) (.slice none 0 0) (.slice none 0 0) HB7.out);have hkw:=put5_kept (g:=g) (S:=[p]) (.int .i64 x1) (.int .i64 x2) (.int .i64 x3) (.slice none 0 0) (.slice none 0 0) HK7.out (.inr HG.out);have hkr:=put5_kept (g:=g) (S:=[g]) (.int .i64 x1) (.int .i64 x2) (.int .i64 x3) (.slice none 0 0) (.slice none 0 0) (Kept.refl [g] w7) (.inl (by simp));have HKW:=hide hkw;have HKR:=hide hkr;clear hkw hkr;go_wp2;generalize (((((w7.setCell ⟨g,0,none⟩ (.int .i64 x1)).setCell ⟨g,1,none⟩ (.int .i64 x2)).setCell ⟨g,2,none⟩ (.int .i64 x3)).setCell ⟨g,3,none⟩ (.slice none 0 0)).setCell ⟨g,4,none⟩ (.slice none 0 0))=W at HBW HKW HKR ⊢;obtain⟨t0,t1,t2,t3,t4⟩:=cell5 HBW.out;refine bodyPost_ret (v:= .tuple #[.agg #[.int .i64 x1,.int .i64 x2,.int .i64 x3,.slice none 0 0,.slice none 0 0],.int .i64 (cn bs),.int .i64 (ck bs)]) ?_ rfl ⟨by rw[HX1.out,HX2.out,HX3.out],HR7.out.kept HKR.out (by simp;omega) (by simp;omega),HKW.out⟩
 simp [results,Tryz.results233,go_sem,t0,t1,t2,t3,t4]
end Go.Proofs.YtjkmahmoclobmaaGreat.record
namespace Go.Proofs.YtjkmahmoclobmaaGreat.record
open Go.RowKit mem base row rowBack fill crc crcMath super item
def lenOf (R:Rc):Nat:=if R.may=true then 1+R.bks.length else 0
theorem lenOf_ok {R:Rc}(h:R.ok):lenOf R=1+R.bks.length:=if_pos (R.may_iff.2 h)
theorem len_any (R:Rc)(L A:Option Addr)(n c k d:Nat)(w:World)(h:RcAt w L n A k R):
  Calls Tryz.prog 190 #[.agg #[.int .i64 R.m,.int .i64 R.l,.int .i64 R.p,.slice L n c,.slice A k d]] w fun e w'=>e= .returned (.int .i64 (lenOf R))∧Kept [] w w':=by
 have hk1:=(Kept.refl [] w).alloc (.cells #[.int .i64 R.m,.int .i64 R.l,.int .i64 R.p,.slice L n c,.slice A k d] 111);have hb1:=Blk.new w 111 #[.int .i64 R.m,.int .i64 R.l,.int .i64 R.p,.slice L n c,.slice A k d];obtain⟨g,hg⟩:∃ g,w.heap.size=g:=⟨_,rfl⟩;rw[hg]at hb1;have HR:=hide (h.kept hk1);have HN:=hide h.hk;have HB1:=hide hb1;have HK1:=hide hk1;clear hb1 hk1 h
 by_cases hm:R.may=true
 ·have hk6:k≤6:=by have:=Rc.ok.few (R.may_iff.1 hm);rw[HN.out]at this;exact this
  have HE:Hid (lenOf R=1+k):=hide (by unfold lenOf;rw[if_pos hm,HN.out]);have HM:=hide hm;clear hm;go_enter Tryz.func190,Tryz.ntmps190;go_wp2_with fail;refine(may_any R L A n c k d _ HR.out).mono ?_;rintro e w2 ⟨rfl,hk⟩;rw[HM.out];have HK2:=hide (HK1.out.trans hk (by simp));have f4:=(hk.blk HB1.out (by simp)).cell 4;clear hk;go_wp2;go_ret;exact⟨by rw[HE.out];rfl,HK2.out⟩
 ·have HE:Hid (lenOf R=0):=hide (if_neg hm);have HM:=hide ((Bool.not_eq_true _).mp hm);clear hm;go_enter Tryz.func190,Tryz.ntmps190;go_wp2_with fail;refine(may_any R L A n c k d _ HR.out).mono ?_;rintro e w2 ⟨rfl,hk⟩;rw[HM.out];have HK2:=hide (HK1.out.trans hk (by simp));clear hk;go_wp2;go_ret;exact⟨by rw[HE.out];rfl,HK2.out⟩

theorem fits_rec {R:Rc}(h:R.ok):(∀ m∈[R.m,R.l,R.p],fitsW (4:Nat) m=true)∧(∀ m∈[(R.its.length:Int),(R.bks.length:Int)],fitsW (1:Nat) m=true):=by
 have hf:=h.few;obtain⟨hm,hl,hp,hi,_⟩:=h;refine⟨fun m hx=> ?_,fun m hx=> ?_⟩
 ·simp only[List.mem_cons,List.not_mem_nil,or_false]at hx
  rcases hx with rfl|rfl|rfl<;>exact fits4 _ (by omega) (by omega)
 ·simp only[List.mem_cons,List.not_mem_nil,or_false]at hx
  rcases hx with rfl|rfl<;>exact fits1 _ (by omega) (by omega)

theorem lead_any (R:Rc)(L A:Option Addr)(n c k d:Nat)(w:World)(h:RcAt w L n A k R)(ho:R.ok):
  Calls Tryz.prog 209 #[.agg #[.int .i64 R.m,.int .i64 R.l,.int .i64 R.p,.slice L n c,.slice A k d]] w fun e w'=>∃ P cp,e= .returned (.slice P 60 cp)∧NewBytes w w' P cp R.body∧Kept [] w w':=by
 have hk1:=(Kept.refl [] w).alloc (.cells #[.int .i64 R.m,.int .i64 R.l,.int .i64 R.p,.slice L n c,.slice A k d] 111);have hb1:=Blk.new w 111 #[.int .i64 R.m,.int .i64 R.l,.int .i64 R.p,.slice L n c,.slice A k d];have hlt:=hb1.lt;obtain⟨g,hg⟩:∃ g,w.heap.size=g:=⟨_,rfl⟩;rw[hg]at hb1 hlt;have f3:=hb1.cell 3
 have hn6:n≤6:=by rw[←h.hn];exact ho.2.2.2.1.2
 have HI:=hide (h.its.kept hk1 (by simp));have HN:=hide h.hn;have HKN:=hide h.hk;have HB1:=hide hb1;have HK1:=hide hk1;have HF:=hide (fits_rec ho);have HE:Hid (item.encode R.its=(laid R.its,0)):=hide (encode_yes _ (by rw[h.hn];exact hn6) ho.2.2.2.2.1);have HL:=hide (show(laid R.its).length=7*n by rw[laid_len,h.hn]);clear hb1 hk1 h ho;go_enter Tryz.func209,Tryz.ntmps209;go_wp2_with fail;refine(item.encode_any L n c R.its _ HI.out HN.out hn6).mono ?_;rintro e w2 ⟨P2,n2,c2,rfl,hn2,hnb,hk⟩;rw[HE.out]at hn2 hnb ⊢;have HX2:=hide (hnb.vals (S:=[]) (by simp));have hl2:=HL.out
 obtain rfl:n2=7*n:=by rw[hn2];exact hl2
 have HB2:=hide (hk.blk HB1.out (by simp));have HK2:=hide (HK1.out.trans hk (by simp));have hs2:=hk.size;clear hk hnb hn2 f3 hl2;go_wp2_with fail;refine(new_at 60 _ (by omega) (by omega)).mono ?_;rintro e w3 ⟨p,b,cap,A3,rfl,hp,hb,hb3,hr,hk⟩;rw[show(⟨List.replicate (60:Int).toNat 0,0⟩:Row)=rowF 60 []by rw[show(60:Int).toNat=60 by omega];exact rowF_nil _]at hr;have hp3:=hr.lt;have HR3:=hide hr;have HB3:=hide (hk.blk HB2.out (by simp));have HX3:=hide (HX2.out.far hk (S:=[p,b]) (by simp;omega));have HK3:=hide (HK2.out.trans hk (by simp))
 have hgp:g<p:=by have:=HB2.out.lt;omega
 have hgb:g<b:=by have:=HB2.out.lt;omega
 have HPW:=hide (show w.heap.size≤p∧w.heap.size≤b by have:=HK2.out.size;omega);clear hr hk;have hcv:=Go.Joins.run_convert_bytes_const_at (P:=Tryz.prog) w3 41 5 #[.int .u8 75,.int .u8 82] 2 2 w3.heap.size rfl Tryz.underlying41 Tryz.underlying5;go_wp2_with fail;refine(lay_len p b cap A3 _ (some ⟨w3.heap.size,0,none⟩) [75,82] 2 2 _ rfl (HR3.out.kept (S:=[]) ((Kept.refl _ w3).alloc _) (by simp) (by simp)) (Vals.lit w3 [p,b] _ _ _ ([75,82].map B) rfl (by simp;omega))).mono ?_;rintro e w4 ⟨rfl,hr,hk⟩;rw[rowF_lay 60 [] [75,82] (by simp)]at hr ⊢;have hs4:=hk.size;have HR4:=hide hr;have HB4:=hide (Kept.lit_blk _ hk HB3.out (by simp;omega));have HX4:=hide ((HX3.out.kept ((Kept.refl [] w3).alloc _) (by simp)).kept hk (by simp));have HK4:=hide (HK3.out.lit _ hk (by have:=HPW.out;simp;omega))
 have hs4:w3.heap.size<w4.heap.size:=by simp at hs4;omega
 clear hr hk hcv HR3 HB3 HK3 HX3;have f0:=HB4.out.cell 0;have f1:=HB4.out.cell 1;have f2:=HB4.out.cell 2;go_wp2_with fail;refine(put_len p b cap A3 _ 4 (some ⟨w4.heap.size,0,none⟩) [R.m,R.l,R.p] 3 3 _ rfl (HR4.out.kept (S:=[]) ((Kept.refl _ w4).alloc _) (by simp) (by simp)) (Vals.lit w4 [p,b] _ _ _ ([R.m,R.l,R.p].map I) rfl (by simp;omega)) (by omega)).mono ?_;rintro e w5 ⟨rfl,hr,hk⟩;rw[show((4:Int))=((4:Nat):Int)by rfl,rowF_put 60 _ 4 _ rfl HF.out.1 (by simp)]at hr ⊢;have hs5:=hk.size;have HR5:=hide hr;have HB5:=hide (Kept.lit_blk _ hk HB4.out (by simp;omega));have HX5:=hide ((HX4.out.kept ((Kept.refl [] w4).alloc _) (by simp)).kept hk (by simp));have HK5:=hide (HK4.out.lit _ hk (by have:=HPW.out;simp;omega))
 have hs5:w4.heap.size<w5.heap.size:=by simp at hs5;omega
 clear hr hk f0 f1 f2 HR4 HB4 HK4 HX4;have f3:=HB5.out.cell 3;have f4:=HB5.out.cell 4;have HF2:Hid (∀ m∈[(n:Int),(k:Int)],fitsW (1:Nat) m=true):=hide (by have:=HF.out.2;rwa [HN.out,HKN.out]at this);go_wp2_with fail;refine(put_len p b cap A3 _ 1 (some ⟨w5.heap.size,0,none⟩) [(n:Int),(k:Int)] 2 2 _ rfl (HR5.out.kept (S:=[]) ((Kept.refl _ w5).alloc _) (by simp) (by simp)) (Vals.lit w5 [p,b] _ _ _ ([(n:Int),(k:Int)].map I) rfl (by simp;omega)) (by omega)).mono ?_;rintro e w6 ⟨rfl,hr,hk⟩;rw[show((1:Int))=((1:Nat):Int)by rfl,rowF_put 60 _ 1 _ rfl HF2.out (by simp [bytesOf_length])]at hr ⊢;have hs6:=hk.size;have HR6:=hide hr;have HX6:=hide ((HX5.out.kept ((Kept.refl [] w5).alloc _) (by simp)).kept hk (by simp));have HK6:=hide (HK5.out.lit _ hk (by have:=HPW.out;simp;omega));clear hr hk f3 f4 HR5 HB5 HK5 HX5;go_wp2_with fail;refine(lay_len p b cap A3 _ P2 (laid R.its) (7*n) c2 _ HL.out HR6.out HX6.out).mono ?_;rintro e w7 ⟨rfl,hr,hk⟩;rw[rowF_lay 60 _ _ (by have:=HL.out;simp [bytesOf_length];omega)]at hr ⊢;have HR7:=hide hr;have HK7:=hide (HK6.out.trans hk (by have:=HPW.out;simp;omega));clear hr hk HR6 HX6;go_wp2_with fail;refine(bytes_at p b cap A3 _ _ HR7.out).mono ?_;rintro e w8 ⟨A8,c8,rfl,hn8,hk⟩
 have hb:(rowF 60 ((([]++[75,82])++bytesOf 4 [R.m,R.l,R.p]++bytesOf 1 [(n:Int),(k:Int)])++laid R.its)).bs=R.body:=by
  unfold Rc.body Rc.head;rw[HN.out,HKN.out]
  rfl
 have h60:(R.body).length=60:=R.body_len (by rw[HN.out];exact hn6);rw[hb]at hn8 ⊢;rw[h60];have HN8:=hide (hn8.mono HK7.out.size);have HK8:=hide (HK7.out.trans hk (by simp));clear hn8 hk hb h60;go_wp2;go_ret;exact⟨A8,c8,rfl,HN8.out,HK8.out⟩
end Go.Proofs.YtjkmahmoclobmaaGreat.record
namespace Go.Proofs.YtjkmahmoclobmaaGreat.record
open Go.RowKit mem base row rowBack fill crc crcMath super item
theorem encode_no (R:Rc)(L A:Option Addr)(n c k d:Nat)(w:World)(h:RcAt w L n A k R)(hm:R.may=false):
  Calls Tryz.prog 169 #[.agg #[.int .i64 R.m,.int .i64 R.l,.int .i64 R.p,.slice L n c,.slice A k d]] w fun e w'=>e= .returned (.tuple #[.slice none 0 0,.int .i64 0,.int .i64 1])∧Kept [] w w':=by
 have hk1:=(Kept.refl [] w).alloc (.cells #[.int .i64 R.m,.int .i64 R.l,.int .i64 R.p,.slice L n c,.slice A k d] 111);have HR:=hide (h.kept hk1);have HK1:=hide hk1;have HM:=hide hm;clear hk1 h hm;go_enter Tryz.func169,Tryz.ntmps169;go_wp2_with fail;refine(may_any R L A n c k d _ HR.out).mono ?_;rintro e w2 ⟨rfl,hk⟩;rw[HM.out];have HK2:=hide (HK1.out.trans hk (by simp));clear hk;go_wp2;go_ret3;exact⟨rfl,HK2.out⟩

theorem flat_snoc (l:List (List UInt8))(j:Nat)(b:List UInt8)(h:l[j]? = some b):(l.take (j+1)).flatten=(l.take j).flatten++b:=by
 rw[List.take_add_one,h]
 simp
theorem all64_take (l:List (List UInt8))(h:all64 l)(j:Nat):all64 (l.take j):=fun b hb=>h b (List.mem_of_mem_take hb)
theorem flat_take_len (l:List (List UInt8))(h:all64 l)(j k:Nat)(hl:l.length=k)(hj:j≤k):(l.take j).flatten.length=64*j:=by
 rw[flat_len _ (all64_take l h j),List.length_take,hl,Nat.min_eq_left hj]

theorem encode_yes (R:Rc)(L A:Option Addr)(n c k d:Nat)(w:World)(h:RcAt w L n A k R)(ho:R.ok):
  Calls Tryz.prog 169 #[.agg #[.int .i64 R.m,.int .i64 R.l,.int .i64 R.p,.slice L n c,.slice A k d]] w fun e w'=>∃ P cp,e= .returned (.tuple #[.slice P (64*(1+k)) cp,.int .i64 R.sum,.int .i64 0])∧NewBytes w w' P cp R.bytes∧Kept [] w w':=by
 have hk1:=(Kept.refl [] w).alloc (.cells #[.int .i64 R.m,.int .i64 R.l,.int .i64 R.p,.slice L n c,.slice A k d] 111);have hb1:=Blk.new w 111 #[.int .i64 R.m,.int .i64 R.l,.int .i64 R.p,.slice L n c,.slice A k d];have hlt:=hb1.lt;obtain⟨g,hg⟩:∃ g,w.heap.size=g:=⟨_,rfl⟩;rw[hg]at hb1 hlt
 have hk6:k≤6:=by rw[←h.hk];exact ho.few
 have H64:=hide ho.2.2.2.2.2.2;have HLEN:=hide ho.2.2.2.1.2;have HKN:=hide h.hk;have HM:=hide (R.may_iff.2 ho);have HLO:Hid (lenOf R=1+k):=hide (by rw[lenOf_ok ho,h.hk]);have HO:=hide ho;have HR1:=hide (h.kept hk1);have HB1:=hide hb1;have HK1:=hide hk1;clear hb1 hk1 h ho;go_enter Tryz.func169,Tryz.ntmps169;go_wp2_with fail;refine(may_any R L A n c k d _ HR1.out).mono ?_;rintro e w2 ⟨rfl,hk⟩;rw[HM.out];have HR2:=hide (HR1.out.kept hk);have HB2:=hide (hk.blk HB1.out (by simp));have HK2:=hide (HK1.out.trans hk (by simp));have f0:=HB2.out.cell 0;have f1:=HB2.out.cell 1;have f2:=HB2.out.cell 2;have f3:=HB2.out.cell 3;have f4:=HB2.out.cell 4;clear hk HR1 HB1 HK1;go_wp2_with fail;refine(lead_any R L A n c k d _ HR2.out HO.out).mono ?_;rintro e w3 ⟨P3,c3,rfl,hn3,hk⟩;have HR3:=hide (HR2.out.kept hk);have HB3:=hide (hk.blk HB2.out (by simp));have HX3:=hide (hn3.vals (S:=[]) (by simp));have HK3:=hide (HK2.out.trans hk (by simp));clear hk hn3 f0 f1 f2 f3 f4 HR2 HB2 HK2;obtain⟨vs,hpo,hvs⟩:=HR3.out.bks.split
 have hvl:vs.length=k:=by rw[hpo.1];exact HKN.out
 have HPO:=hide hpo;have HVS:=hide (hvs.kept ((Kept.refl [] w3).alloc (.cells #[.slice P3 60 c3] 41)) (by simp));have HOC:=hide hpo.cells;have HVL:=hide hvl;have H60:=hide (R.body_len HLEN.out);have f4:=(HB3.out.alloc (.cells #[.slice P3 60 c3] 41)).cell 4;clear hpo hvs hvl;go_wp2_with (at_builtin;refine wpList_append_vals rfl (.tmp 16) (.tmp 18) 97 rfl w3.heap.size 41 (.slice none 0 0) 1 24 Tryz.underlying97 slice_info rfl (by omega) (.slice (some ⟨w3.heap.size,0,none⟩) 1 1) 1 [.slice P3 60 c3] rfl (own_one w3 _ _) [] A k d vs rfl (by rw[HVL.out,Nat.mul_one]) HVS.out HOC.out (by simp only[maxLen];omega) (by omega) (by simp) ?_;intro v1 w4 hown1 hk4 hat1);have hk34:Kept [] w3 w4:=((Kept.refl [] w3).alloc _).trans hk4 (fun i hi=> .inr (by simp [Value.ownBlock]at hi;omega));obtain⟨A4,c4,rfl,_,_,hv4,_⟩:=own_slice hown1;have hpar:Parts w4 A4 (R.body::R.bks):=((PartsOf.one P3 60 c3 R.body H60.out (by omega) HX3.out).append HPO.out |>.kept hk34).parts (hv4 [] (by simp));have HPAR:=hide hpar;have HR4:=hide (HR3.out.kept hk34);have HB4:=hide (hk34.blk HB3.out (by simp));have HX4:=hide (HX3.out.kept hk34 (by simp));have HK4:=hide (HK3.out.trans hk34 (by simp));have HLP:Hid ((R.body::R.bks).length=1+k):=hide (by rw[List.length_cons,HKN.out];omega);clear hown1 hk4 hat1 hk34 hv4 hpar f4 HR3 HB3 HX3 HK3 HVS HPO;go_wp2_with fail;refine(sum_any A4 (1+k) c4 (R.body::R.bks) _ HPAR.out HLP.out (by omega)).mono ?_;rintro e w5 ⟨rfl,rfl⟩
 have hsum:more 0 (R.body::R.bks).flatten=R.sum:=by unfold Rc.sum Rc.tail;rw[List.flatten_cons]
 rw[hsum];clear hsum;obtain⟨y,hy⟩:∃ y:Nat,R.sum=y:=⟨_,rfl⟩
 have hfy:fitsW (4:Nat) (y:Int)=true:=by rw[←hy];exact sum_fits _
 have HS4:Hid (R.sum4=bytesOf 4 [(y:Int)]):=hide (by rw[←hy];rfl);have HFY:=hide hfy;have HY:=hide hy;rw[hy];clear hfy hy;have f0:=HB4.out.cell 0;have f1:=HB4.out.cell 1;have f2:=HB4.out.cell 2;have f3:=HB4.out.cell 3;have f4:=HB4.out.cell 4;go_wp2_with fail;refine(len_any R L A n c k d _ HR4.out).mono ?_;rintro e w6 ⟨rfl,hk⟩;rw[HLO.out];have HR6:=hide (HR4.out.kept hk);have HB6:=hide (hk.blk HB4.out (by simp));have HX6:=hide (HX4.out.kept hk (by simp));have HK6:=hide (HK4.out.trans hk (by simp));clear hk f0 f1 f2 f3 f4 HR4 HB4 HX4 HK4 HPAR;go_wp2_with fail;refine(new_at (64*((1+k:Nat):Int)) _ (by omega) (by omega)).mono ?_;rintro e w7 ⟨p,b,cap,A7,rfl,hp,hb,hb7,hr,hk⟩;rw[show(⟨List.replicate (64*((1+k:Nat):Int)).toNat 0,0⟩:Row)=rowF (64*(1+k)) []by rw[show(64*((1+k:Nat):Int)).toNat=64*(1+k)by omega];exact rowF_nil _]at hr;have hp7:=hr.lt;have HR7:=hide hr;have HB7:=hide (hk.blk HB6.out (by simp));have HQ7:=hide (HR6.out.kept hk);have HX7:=hide (HX6.out.far hk (S:=[p,b]) (by simp;omega));have HK7:=hide (HK6.out.trans hk (by simp))
 have hgp:g<p:=by have:=HB6.out.lt;omega
 have hgb:g<b:=by have:=HB6.out.lt;omega
 have HPW:=hide (show w.heap.size≤p∧w.heap.size≤b by have:=HK6.out.size;omega);have HPW6:=hide (show w6.heap.size≤p∧w6.heap.size≤b from⟨hp,hb⟩);have HK67:=hide hk;clear hr hk HB6 HX6 HK6;go_wp2_with fail;refine(lay_len p b cap A7 _ P3 R.body 60 c3 _ H60.out HR7.out HX7.out).mono ?_;rintro e w8 ⟨rfl,hr,hk⟩;rw[rowF_lay (64*(1+k)) [] R.body (by have:=H60.out;simp;omega)]at hr ⊢;have hs8:=hk.size;have HR8:=hide hr;have HB8:=hide (hk.blk HB7.out (by simp;omega));have HK8:=hide (HK7.out.trans hk (by have:=HPW.out;simp;omega));have HK68:=hide (HK67.out.trans hk (by have:=HPW6.out;simp;omega));clear hr hk HR7 HB7 HX7 HK7 HQ7;go_wp2_with fail;refine(put_len p b cap A7 _ 4 (some ⟨w8.heap.size,0,none⟩) [(y:Int)] 1 1 _ rfl (HR8.out.kept (S:=[]) ((Kept.refl _ w8).alloc _) (by simp) (by simp)) (base.vals_one w8 [p,b] _ _ (by simp;omega)) (by omega)).mono ?_;rintro e w9 ⟨rfl,hr,hk⟩;rw[show((4:Int))=((4:Nat):Int)by rfl,rowF_put (64*(1+k)) _ 4 _ rfl (by simpa using HFY.out) (by have:=H60.out;simp;omega)]at hr ⊢
 have HR9:Hid (RowAt w9 p b cap A7 (rowF (64*(1+k)) (R.first++(R.bks.take 0).flatten))):=hide (by
  unfold Rc.first
  rw[HS4.out]
  simpa using hr)
 have HB9:=hide (Kept.lit_blk _ hk HB8.out (by simp;omega));have HK9:=hide (HK8.out.lit _ hk (by have:=HPW.out;simp;omega));have HK69:=hide (HK68.out.lit _ hk (by have:=HPW6.out;simp;omega));have f4:=HB9.out.cell 4;have HF1:=hide (R.first_len HLEN.out);clear hr hk HR8 HB8 HK8 HK68;go_wp2
 go_loopw [35,9] (fun i u wr=>∃ j:Nat,j≤k∧i= .int .i64 j∧Hid (RowAt wr p b cap A7 (rowF (64*(1+k)) (R.first++(R.bks.take j).flatten)))∧Hid (Kept [] w wr)∧Hid (Kept [] w6 wr)) (fun i u wr=>k-(intOf i).toNat)
 case atStart=>exact⟨0,by omega,rfl,HR9,HK9,HK69⟩
 case round=>
  obtain⟨j,hj,rfl,HRr,HKr,HK6r⟩:=hrel
  by_cases hlt2:j<k
  ·obtain⟨bl,hbl⟩:∃ bl,R.bks[j]? = some bl:=⟨_,List.getElem?_eq_getElem (by rw[HKN.out];exact hlt2)⟩;obtain⟨ad,Ai,ci,hA,hc,hle,hvi⟩:=(HR6.out.bks.kept HK6r.out).at_ j _ hbl;clear hle;have h64:bl.length=64:=H64.out bl (List.mem_of_getElem? hbl)
   have hvf:Vals wr [p,b] Ai (bl.map B):=by
    obtain⟨ad',Ai',ci',hA',hc',_,hvi6⟩:=HR6.out.bks.at_ j _ hbl;have e:=HK6r.out.cell hc' (by simp);rw[hA]at hA';cases hA';rw[hc]at e;cases e;exact hvi6.far HK6r.out (by have:=HPW6.out;simp;omega)
   have HVF:=hide hvf;have HBL:=hide hbl;have HH64:=hide h64;rw[h64]at hc;clear hvi hvf hbl h64;subst hA;go_wp2_with fail;refine(lay_len p b cap A7 _ Ai bl 64 ci _ HH64.out HRr.out HVF.out).mono ?_;rintro e w10 ⟨rfl,hr,hk⟩;rw[rowF_lay _ _ _ (by rw[List.length_append,HF1.out,flat_take_len R.bks H64.out j k HKN.out (by omega),HH64.out];omega)]at hr ⊢
   have HR10:Hid (RowAt w10 p b cap A7 (rowF (64*(1+k)) (R.first++(R.bks.take (j+1)).flatten))):=hide (by
    rw[flat_snoc R.bks j bl HBL.out,←List.append_assoc]
    exact hr)
   have HK10:=hide (HKr.out.trans hk (by have:=HPW.out;simp;omega));have HK610:=hide (HK6r.out.trans hk (by have:=HPW6.out;simp;omega));clear hr hk;go_wp2;go_roundw
   case rel=>exact⟨j+1,by omega,by go_num,HR10,HK10,HK610⟩
   case measure=>simp [intOf];omega
  ·obtain rfl:j=k:=by omega
   have hfull:R.bks.take j=R.bks:=List.take_of_length_le (by rw[HKN.out];exact Nat.le_refl _);rw[hfull]at HRr
   have hfl:R.bks.flatten.length=64*j:=by rw[flat_len _ H64.out,HKN.out]
   have hbs:(rowF (64*(1+j)) (R.first++R.bks.flatten)).bs=R.bytes:=rowF_full _ _ (by rw[List.length_append,HF1.out,hfl];omega)
   have hbl:R.bytes.length=64*(1+j):=by rw[R.bytes_len HO.out,HKN.out]
   go_wp2_with fail;refine(bytes_at p b cap A7 _ _ HRr.out).mono ?_;rintro e w11 ⟨A11,c11,rfl,hn11,hk⟩;rw[hbs]at hn11 ⊢;rw[hbl];have HN11:=hide (hn11.mono HKr.out.size);have HK11:=hide (HKr.out.trans hk (by simp));clear hn11 hk hbs hbl hfl hfull;go_wp2;go_ret3;exact⟨A11,c11,by rw[HY.out];rfl,HN11.out,HK11.out⟩

theorem encode_any (R:Rc)(L A:Option Addr)(n c k d:Nat)(w:World)(h:RcAt w L n A k R):
  Calls Tryz.prog 169 #[.agg #[.int .i64 R.m,.int .i64 R.l,.int .i64 R.p,.slice L n c,.slice A k d]] w fun e w'=>
   ∃ P n' cp,e= .returned (.tuple #[.slice P n' cp,.int .i64 (encode R).2.1,.int .i64 (encode R).2.2])∧n'=(encode R).1.length∧NewBytes w w' P cp (encode R).1∧Kept [] w w':=by
 by_cases hm:R.may=true
 ·have e:encode R=(R.bytes,(R.sum:Int),0):=if_pos hm;rw[e]
  exact(encode_yes R L A n c k d w h (R.may_iff.1 hm)).mono fun _ _ ⟨P,cp,h1,h2,h3⟩=>⟨P,_,cp,h1,by rw[Rc.bytes_len (R.may_iff.1 hm),h.hk],h2,h3⟩
 ·have e:encode R=([],0,1):=if_neg hm;rw[e]
  exact(encode_no R L A n c k d w h ((Bool.not_eq_true _).mp hm)).mono fun _ _ ⟨h1,h3⟩=>⟨none,0,0,h1,rfl,.inl ⟨rfl,rfl,rfl⟩,h3⟩
end Go.Proofs.YtjkmahmoclobmaaGreat.record
