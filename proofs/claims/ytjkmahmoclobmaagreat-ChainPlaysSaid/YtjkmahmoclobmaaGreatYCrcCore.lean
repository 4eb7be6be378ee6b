import Derived.Test.YtjkmahmoclobmaaGreatYAlike
import Derived.Laws.BitsAllLaws
import Derived.Lib.SmallJoins
import Derived.StillTailTactics
import Derived.Test.YtjkmahmoclobmaaGreatYFar
set_option maxRecDepth 100000
namespace Go.Proofs.YtjkmahmoclobmaaGreat.crcMath
def poly:Nat:=2197175160
def zstep (x:Nat):Nat:=(x >>> 1)^^^(if x.testBit 0 then poly else 0)
def bstep (x:Nat)(b:Bool):Nat:=zstep (x^^^b.toNat)
def crcBits (x:Nat)(l:List Bool):Nat:=l.foldl bstep x
def bits8 (c:UInt8):List Bool:=(List.range 8).map c.toNat.testBit
def allBits (l:List UInt8):List Bool:=l.flatMap bits8
theorem crcBits_append (x:Nat)(l m:List Bool):crcBits x (l++m)=crcBits (crcBits x l) m:=by simp [crcBits,List.foldl_append]

theorem shr_lt (x:Nat)(h:x<2^32):x >>> 1<2^31:=by rw[Nat.shiftRight_succ];simp;omega
theorem zstep_lt (x:Nat)(h:x<2^32):zstep x<2^32:=by
 unfold zstep;refine Nat.xor_lt_two_pow (by have:=shr_lt x h;omega) ?_
 split<;>decide
theorem bstep_lt (x:Nat)(b:Bool)(h:x<2^32):bstep x b<2^32:=
 zstep_lt _ (Nat.xor_lt_two_pow h (by cases b<;>decide))
theorem crcBits_lt (x:Nat)(l:List Bool)(h:x<2^32):crcBits x l<2^32:=by
 induction l generalizing x with
 | nil=>exact h
 | cons b l ih=>exact ih _ (bstep_lt x b h)

theorem allBits_append (l m:List UInt8):allBits (l++m)=allBits l++allBits m:=by simp [allBits]
end Go.Proofs.YtjkmahmoclobmaaGreat.crcMath
namespace Go.Proofs.YtjkmahmoclobmaaGreat.crc
open Go.RowKit mem base crcMath
theorem bits8_take (c:UInt8)(k:Nat)(h:k<8):(bits8 c).take (k+1)=(bits8 c).take k++[c.toNat.testBit k]:=by
 rw[List.take_add_one]
 congr 1
 simp [bits8,List.getElem?_map,List.getElem?_range h]

theorem crc_step (x:Nat)(c:UInt8)(k:Nat)(h:k<8):crcBits x ((bits8 c).take (k+1))=bstep (crcBits x ((bits8 c).take k)) ((c.toNat/2^k).testBit 0):=by
 rw[bits8_take c k h,crcBits_append,Nat.testBit_div_two_pow,Nat.zero_add]
 rfl

theorem crc_all (x:Nat)(c:UInt8):crcBits x ((bits8 c).take 8)=crcBits x (bits8 c):=by
 rw[List.take_of_length_le (by simp [bits8])]

theorem bstep_next (y q:Nat):bstep y (q.testBit 0)=if (y^^^q)%2=1 then(y/2)^^^poly else y/2:=by
 have h1:(y^^^(q.testBit 0).toNat) >>> 1=y/2:=by
  rw[Nat.shiftRight_xor_distrib,Nat.shiftRight_succ,Nat.shiftRight_succ]
  cases q.testBit 0<;>simp
 have h2:(y^^^(q.testBit 0).toNat).testBit 0=(y^^^q).testBit 0:=by
  rw[Nat.testBit_xor,Nat.testBit_xor]
  congr 1
  cases q.testBit 0<;>rfl
 unfold bstep zstep;rw[h1,h2,Nat.testBit_zero]
 by_cases h:(y^^^q)%2=1<;>simp [h]
theorem out_bit (y q:Nat)(hy:y<4294967296)(hq:q<4294967296):bits .and .u32 (bits .xor .u32 (y:Int) (q:Int)) 1=(((y^^^q)%2:Nat):Int):=by
 have hx:y^^^q<4294967296:=Nat.xor_lt_two_pow (n:=32) hy hq;rw[u32_xor_nat y q hy hq,show(1:Int)=((1:Nat):Int)from rfl,u32_and_nat _ _ hx (by omega)]
 congr 1
 exact Nat.and_one_is_mod _
theorem reg_yes (y q:Nat)(hy:y<4294967296)(h:(y^^^q)%2=1):bits .xor .u32 ((y:Int)/2) 2197175160=(bstep y (q.testBit 0):Int):=by
 rw[bstep_next,if_pos h,show(y:Int)/2=((y/2:Nat):Int)by omega,show(2197175160:Int)=((2197175160:Nat):Int)from rfl,u32_xor_nat _ _ (by omega) (by omega)]
 rfl
theorem reg_no (y q:Nat)(h:¬(y^^^q)%2=1):(y:Int)/2=(bstep y (q.testBit 0):Int):=by
 rw[bstep_next,if_neg h]
 omega

theorem byte_shift (c:UInt8)(k:Nat):((c.toNat:Int)/2^k%4294967296)=((c.toNat/2^k:Nat):Int):=by
 have h:=c.toNat_lt;have h2:c.toNat/2^k≤c.toNat:=Nat.div_le_self _ _
 have e:((c.toNat:Int)/2^k)=((c.toNat/2^k:Nat):Int):=by simp
 rw[e];generalize c.toNat/2^k=q at*
 omega
theorem byte_shift_lt (c:UInt8)(k:Nat):c.toNat/2^k<4294967296:=by
 have h:=c.toNat_lt;have h2:c.toNat/2^k≤c.toNat:=Nat.div_le_self _ _;generalize c.toNat/2^k=q at*
 omega

theorem take_any (x:Nat)(c:UInt8)(hx:x<4294967296)(w:World):
  Calls Tryz.prog 238 #[.int .u32 x,.int .u8 c.toNat] w fun e w'=>e= .returned (.int .u32 (crcBits x (bits8 c)))∧w=w':=by
 go_enter Tryz.func238,Tryz.ntmps238;go_wp2
 go_loop [7,0] (fun i r=>∃ k:Nat,k≤8∧i= .int .i64 k∧r= .int .u32 (crcBits x ((bits8 c).take k))) (fun i _=>8-(intOf i).toNat)
 case atStart=>exact⟨0,by omega,rfl,rfl⟩
 case round=>
  obtain⟨k,hk,rfl,rfl⟩:=hrel
  by_cases hlt:k<8
  ·have hy:=crcBits_lt x ((bits8 c).take k) hx;have hs:=hide (crc_step x c k hlt);generalize crcBits x ((bits8 c).take k)=y at hy hs;go_wp2
   ·rename_i h
    rw[byte_shift,out_bit y _ hy (byte_shift_lt c k)]at h
    have h':(y^^^c.toNat/2^k)%2=1:=by have:=beq_iff_eq.1 h;omega
    exact⟨⟨k+1,by omega,by go_num,by rw[hs.out,reg_yes y _ hy h']⟩,by simp [intOf];omega⟩
   ·rename_i h
    rw[byte_shift,out_bit y _ hy (byte_shift_lt c k)]at h
    have h':¬(y^^^c.toNat/2^k)%2=1:=by have:=beq_eq_false_iff_ne.1 h;omega
    exact⟨⟨k+1,by omega,by go_num,by rw[hs.out,reg_no y _ h']⟩,by simp [intOf];omega⟩
  ·obtain rfl:k=8:=by omega
   go_wp2;go_ret;exact⟨congrArg (fun q:Nat=>Ending.returned (.int .u32 q)) (crc_all x c),rfl⟩
end Go.Proofs.YtjkmahmoclobmaaGreat.crc
namespace Go.Proofs.YtjkmahmoclobmaaGreat.crc
open Go.RowKit mem base crcMath
def more (s:Nat)(bs:List UInt8):Nat:=4294967295-crcBits (4294967295-s) (allBits bs)

theorem allBits_snoc (bs:List UInt8)(k:Nat)(x:UInt8)(h:bs[k]? = some x):allBits (bs.take (k+1))=allBits (bs.take k)++bits8 x:=by
 rw[List.take_add_one,h,allBits_append]
 simp [allBits]

theorem more_step (r:Nat)(bs:List UInt8)(k:Nat)(x:UInt8)(h:bs[k]? = some x):crcBits r (allBits (bs.take (k+1)))=crcBits (crcBits r (allBits (bs.take k))) (bits8 x):=by
 rw[allBits_snoc bs k x h,crcBits_append]

theorem xor_ones (x:Nat)(h:x<4294967296):4294967295^^^x=4294967295-x:=by
 apply Nat.eq_of_testBit_eq
 intro i;rw[Nat.testBit_xor,show 4294967295-x=2^32-(x+1)by omega,Nat.testBit_two_pow_sub_succ (show x<2^32 from h),show(4294967295:Nat)=2^32-1 from rfl,Nat.testBit_two_pow_sub_one]
 by_cases hi:i<32
 ·simp [hi]
 ·have:x.testBit i=false:=Nat.testBit_lt_two_pow (Nat.lt_of_lt_of_le (show x<2^32 from h) (Nat.pow_le_pow_right (by decide) (by omega)))
  simp [hi,this]

theorem not_nat (x:Nat)(h:x<4294967296):bits .xor .u32 IntKind.u32.max (x:Int)=((4294967295-x:Nat):Int):=by
 rw[show IntKind.u32.max=4294967295 from rfl,show(4294967295:Int)=((4294967295:Nat):Int)from rfl,u32_xor_nat _ _ (by omega) h,xor_ones x h]

theorem more_any (s:Int)(A:Option Addr)(n c:Nat)(bs:List UInt8)(w:World)(hv:Vals w [] A (bs.map B))(hl:bs.length=n)(hn:n≤140737488355328):
  Calls Tryz.prog 229 #[.int .i64 s,.slice A n c] w fun e w'=>e= .returned (.int .i64 (more (s%4294967296).toNat bs))∧w=w':=by
 have HV:=hide hv;have HL:=hide hl;clear hv hl;obtain⟨q,hq⟩:∃ q:Nat,s%4294967296=q:=⟨(s%4294967296).toNat,by omega⟩
 have hq2:q<4294967296:=by omega
 rw[hq,Int.toNat_natCast];have HQ:=hide (not_nat q hq2);obtain⟨r,hr⟩:∃ r:Nat,4294967295-q=r:=⟨_,rfl⟩
 have hr2:r<4294967296:=by omega
 have HR:Hid (more q bs=4294967295-crcBits r (allBits bs)):=hide (by unfold more;rw[hr]);go_enter Tryz.func229,Tryz.ntmps229;go_wp2;rw[HQ.out,hr];clear HQ hr
 go_loop [13,5] (fun i x=>∃ k:Nat,k≤n∧i= .int .i64 k∧x= .int .u32 (crcBits r (allBits (bs.take k)))) (fun i _=>n-(intOf i).toNat)
 case atStart=>exact⟨0,by omega,rfl,rfl⟩
 case round=>
  obtain⟨k,hk,rfl,rfl⟩:=hrel;have hy:=crcBits_lt r (allBits (bs.take k)) hr2
  by_cases hlt:k<n
  ·have hkl:k<bs.length:=by rw[HL.out];exact hlt
   have hx:bs[k]? = some bs[k]:=List.getElem?_eq_getElem hkl;have hs:=hide (more_step r bs k _ hx);obtain⟨ad,rfl,hn,hc⟩:=HV.out k (B bs[k]) (by simp [hkl]);unfold B at hc;generalize crcBits r (allBits (bs.take k))=y at hy hs;generalize bs[k]=b at hs hc;go_wp2_with (go_at_call 238;refine(take_any _ _ hy _).mono ?_;rintro e w' ⟨rfl,rfl⟩);exact⟨⟨k+1,by omega,by go_num,by rw[hs.out]⟩,by simp [intOf];omega⟩
  ·obtain rfl:k=n:=by omega
   have hz:=hide (show crcBits r (allBits (bs.take k))=crcBits r (allBits bs)by rw[List.take_of_length_le (by rw[HL.out];exact Nat.le_refl _)]);rw[hz.out]at hy ⊢;have HN:=hide (not_nat _ hy);clear hz;go_wp2;rw[HN.out,IntWalk.wrap64_in _ (by omega)];go_ret;exact⟨congrArg (fun q:Nat=>Ending.returned (.int .i64 q)) HR.out.symm,rfl⟩
end Go.Proofs.YtjkmahmoclobmaaGreat.crc
namespace Go.Proofs.YtjkmahmoclobmaaGreat.crc
open Go.RowKit mem base crcMath
def Parts (w:World)(A:Option Addr)(bss:List (List UInt8)):Prop:=
 ∃ vs:List Value,vs.length=bss.length∧Vals w [] A vs∧∀ (i:Nat) (bs:List UInt8),bss[i]? = some bs→∃ Ai ci,vs[i]? = some (.slice Ai bs.length ci)∧bs.length≤140737488355328∧Vals w [] Ai (bs.map B)
theorem Parts.kept {w w':World}{A:Option Addr}{bss:List (List UInt8)}(h:Parts w A bss)(k:Kept [] w w'):Parts w' A bss:=by
 obtain⟨vs,h1,h2,h3⟩:=h
 exact⟨vs,h1,h2.kept k (by simp),fun i bs hb=>by
  obtain⟨Ai,ci,h4,h5,h6⟩:=h3 i bs hb
  exact⟨Ai,ci,h4,h5,h6.kept k (by simp)⟩⟩
theorem Parts.at_ {w:World}{A:Option Addr}{bss:List (List UInt8)}(h:Parts w A bss)(i:Nat)(bs:List UInt8)(hb:bss[i]? = some bs):
  ∃ ad Ai ci,A=some ad∧w.cell? (ad.add i)=some (.slice Ai bs.length ci)∧bs.length≤140737488355328∧Vals w [] Ai (bs.map B):=by
 obtain⟨vs,h1,h2,h3⟩:=h;obtain⟨Ai,ci,h4,h5,h6⟩:=h3 i bs hb;obtain⟨ad,h7,_,h8⟩:=h2 i _ h4;exact⟨ad,Ai,ci,h7,h8,h5,h6⟩
theorem Parts.nil (w:World)(A:Option Addr):Parts w A []:=⟨[],rfl,Vals.nil _ _ _,by simp⟩

theorem more_le (s:Nat)(bs:List UInt8):more s bs≤4294967295:=Nat.sub_le _ _
theorem more_more (s:Nat)(a b:List UInt8):more (more s a) b=more s (a++b):=by
 have h:=crcBits_lt (4294967295-s) (allBits a) (by omega);unfold more;rw[allBits_append,crcBits_append,show 4294967295-(4294967295-crcBits (4294967295-s) (allBits a))=crcBits (4294967295-s) (allBits a)by omega]
theorem more_nil (s:Nat)(h:s≤4294967295):more s []=s:=by
 change 4294967295-(4294967295-s)=s
 omega
theorem flat_take (bss:List (List UInt8))(k:Nat)(bs:List UInt8)(h:bss[k]? = some bs):(bss.take (k+1)).flatten=(bss.take k).flatten++bs:=by
 rw[List.take_add_one,h]
 simp
theorem sum_mod (s:Nat)(h:s≤4294967295):((s:Int)%4294967296).toNat=s:=by omega

theorem more_start (bss:List (List UInt8)):(Value.int .i64 0)=Value.int .i64 (more 0 (bss.take 0).flatten:Nat):=by
 rw[List.take_zero,List.flatten_nil,more_nil 0 (by omega)]
 rfl
theorem more_at (s:Nat)(A:Option Addr)(n c:Nat)(bs:List UInt8)(w:World)(hs:s≤4294967295)(hv:Vals w [] A (bs.map B))(hl:bs.length=n)(hn:n≤140737488355328):
  Calls Tryz.prog 229 #[.int .i64 s,.slice A n c] w fun e w'=>e= .returned (.int .i64 (more s bs))∧w=w':=by
 have h:=more_any s A n c bs w hv hl hn;rw[sum_mod s hs]at h;exact h
theorem more_part (y:Nat)(A:Option Addr)(n c:Nat)(bss:List (List UInt8))(bs:List UInt8)(k:Nat)(w:World)(hb:bss[k]? = some bs)(hy:more 0 (bss.take k).flatten=y)(hv:Vals w [] A (bs.map B))(hl:bs.length=n)(hn:n≤140737488355328):
  Calls Tryz.prog 229 #[.int .i64 y,.slice A n c] w fun e w'=>e= .returned (.int .i64 (more 0 (bss.take (k+1)).flatten))∧w=w':=by
 subst hy;have h:=more_at (more 0 (bss.take k).flatten) A n c bs w (more_le _ _) hv hl hn;rw[more_more,←flat_take _ _ _ hb]at h;exact h

theorem sum_any (A:Option Addr)(n c:Nat)(bss:List (List UInt8))(w:World)(hv:Parts w A bss)(hl:bss.length=n)(hn:n≤140737488355328):
  Calls Tryz.prog 210 #[.slice A n c] w fun e w'=>e= .returned (.int .i64 (more 0 bss.flatten))∧w=w':=by
 have HV:=hide hv;have HL:=hide hl;clear hv hl;go_enter Tryz.func210,Tryz.ntmps210;go_wp2
 go_loop [8,3] (fun i x=>∃ k:Nat,k≤n∧i= .int .i64 k∧x= .int .i64 (more 0 (bss.take k).flatten)) (fun i _=>n-(intOf i).toNat)
 case atStart=>exact⟨0,by omega,rfl,more_start bss⟩
 case round=>
  obtain⟨k,hk,rfl,rfl⟩:=hrel
  by_cases hlt:k<n
  ·have hkl:k<bss.length:=by rw[HL.out];exact hlt
   have hx:bss[k]? = some bss[k]:=List.getElem?_eq_getElem hkl;have HX:=hide hx;obtain⟨ad,Ai,ci,rfl,hc,hm,hvi⟩:=HV.out.at_ k _ hx;have HVi:=hide hvi;clear hvi hx;obtain⟨y,hy⟩:∃ y:Nat,more 0 (bss.take k).flatten=y:=⟨_,rfl⟩;have HY:=hide hy;rw[hy];clear hy;generalize bss[k]=b at HX hc HVi hm;have HM:=hide hm;clear hm;go_wp2_with fail;refine(more_part y _ _ _ bss b k _ HX.out HY.out HVi.out rfl HM.out).mono ?_;rintro e w' ⟨rfl,rfl⟩;go_wp2;exact⟨⟨k+1,by omega,by go_num,rfl⟩,by simp [intOf];omega⟩
  ·obtain rfl:k=n:=by omega
   have hz:bss.take k=bss:=List.take_of_length_le (by rw[HL.out];exact Nat.le_refl _);rw[hz];go_wp2;go_ret;exact⟨rfl,rfl⟩
end Go.Proofs.YtjkmahmoclobmaaGreat.crc
namespace Go.Proofs.YtjkmahmoclobmaaGreat.crc
open Go.RowKit mem base crcMath
end Go.Proofs.YtjkmahmoclobmaaGreat.crc
namespace Go.Proofs.YtjkmahmoclobmaaGreat.crc
open Go.RowKit mem base crcMath
theorem shr_next (b:UInt8)(j:Nat):((b.toNat/2^j:Nat):Int)/2=((b.toNat/2^(j+1):Nat):Int):=by
 rw[Nat.pow_succ,←Nat.div_div_eq_div_mul];generalize b.toNat/2^j=q
 omega

theorem rmore_any (s:Int)(A:Option Addr)(n c:Nat)(bs:List UInt8)(w:World)(hv:Vals w [] A (bs.map B))(hl:bs.length=n)(hn:n≤140737488355328):
  Calls Tryz.prog 137 #[.int .i64 s,.slice A n c] w fun e w'=>e= .returned (.int .i64 (more (s%4294967296).toNat bs))∧w=w':=by
 have HV:=hide hv;have HL:=hide hl;clear hv hl;obtain⟨q,hq⟩:∃ q:Nat,s%4294967296=q:=⟨(s%4294967296).toNat,by omega⟩
 have hq2:q<4294967296:=by omega
 have hmod:=mod_any s 4294967296 w (by omega) (by omega);rw[hq]at hmod;rw[hq,Int.toNat_natCast];have HQ:=hide (not_nat q hq2);obtain⟨r,hr⟩:∃ r:Nat,4294967295-q=r:=⟨_,rfl⟩
 have hr2:r<4294967296:=by omega
 have HR:Hid (more q bs=4294967295-crcBits r (allBits bs)):=hide (by unfold more;rw[hr])
 have hqm:((q:Int)%4294967296)=q:=by omega
 have HM:=hide hmod;clear hmod hq;go_enter Tryz.func137,Tryz.ntmps137;go_wp2_with fail;refine HM.out.mono ?_;rintro e w' ⟨rfl,rfl⟩;go_wp2;rw[HQ.out,hr];clear HQ hr HM hqm
 go_loop [6,5] (fun i x=>∃ k:Nat,k≤n∧i= .int .i64 k∧x= .int .u32 (crcBits r (allBits (bs.take k)))) (fun i _=>n-(intOf i).toNat)
 case atStart=>exact⟨0,by omega,rfl,rfl⟩
 case round=>
  obtain⟨k,hk,rfl,rfl⟩:=hrel;have hy:=crcBits_lt r (allBits (bs.take k)) hr2
  by_cases hlt:k<n
  ·have hkl:k<bs.length:=by rw[HL.out];exact hlt
   have hx:bs[k]? = some bs[k]:=List.getElem?_eq_getElem hkl;have hs:=hide (more_step r bs k _ hx);obtain⟨ad,rfl,hn,hc⟩:=HV.out k (B bs[k]) (by simp [hkl]);unfold B at hc;generalize crcBits r (allBits (bs.take k))=y at hy hs;generalize bs[k]=b at hs hc;have hb:=b.toNat_lt
   have hbm:((b.toNat:Int)%4294967296)=b.toNat:=by omega
   go_wp2
   go_loop [8,5,7] (fun i x d=>∃ j:Nat,j≤8∧i= .int .i64 j∧x= .int .u32 (crcBits y ((bits8 b).take j))∧d= .int .u32 ((b.toNat/2^j:Nat):Int)) (fun i _ _=>8-(intOf i).toNat)
   case atStart=>exact⟨0,by omega,rfl,rfl,by simp⟩
   case round=>
    obtain⟨j,hj,rfl,rfl,rfl⟩:=hrel;have hz:=crcBits_lt y ((bits8 b).take j) hy
    by_cases hlj:j<8
    ·have hs2:=hide (crc_step y b j hlj);have hbs:=byte_shift_lt b j;have hsn:=hide (shr_next b j);generalize crcBits y ((bits8 b).take j)=z at hz hs2;generalize b.toNat/2^j=d at hs2 hbs hsn;have hob:=hide (out_bit z d hz hbs);go_wp2
     ·rename_i h
      rw[hob.out]at h
      have h':(z^^^d)%2=1:=by have:=beq_iff_eq.1 h;omega
      exact⟨⟨j+1,by omega,by go_num,by rw[hs2.out,reg_yes z _ hz h'],by rw[hsn.out]⟩,by simp [intOf];omega⟩
     ·rename_i h
      rw[hob.out]at h
      have h':¬(z^^^d)%2=1:=by have:=beq_eq_false_iff_ne.1 h;omega
      exact⟨⟨j+1,by omega,by go_num,by rw[hs2.out,reg_no z _ h'],by rw[hsn.out]⟩,by simp [intOf];omega⟩
    ·obtain rfl:j=8:=by omega
     have ha:=hide (crc_all y b);rw[ha.out];clear ha;go_wp2;exact⟨⟨k+1,by omega,by go_num,by rw[hs.out]⟩,by simp [intOf];omega⟩
  ·obtain rfl:k=n:=by omega
   have hz:=hide (show crcBits r (allBits (bs.take k))=crcBits r (allBits bs)by rw[List.take_of_length_le (by rw[HL.out];exact Nat.le_refl _)]);rw[hz.out]at hy ⊢;have HN:=hide (not_nat _ hy);clear hz;go_wp2;rw[HN.out,IntWalk.wrap64_in _ (by omega)];go_ret;exact⟨congrArg (fun q:Nat=>Ending.returned (.int .i64 q)) HR.out.symm,rfl⟩

theorem rsum_any (A:Option Addr)(n c:Nat)(bs:List UInt8)(w:World)(hv:Vals w [] A (bs.map B))(hl:bs.length=n)(hn:n≤140737488355328):
  Calls Tryz.prog 138 #[.slice A n c] w fun e w'=>e= .returned (.int .i64 (more 0 bs))∧w=w':=by
 have h:=rmore_any 0 A n c bs w hv hl hn;rw[show((0:Int)%4294967296).toNat=0 by decide]at h;have H:=hide h;clear h;go_enter Tryz.func138,Tryz.ntmps138;go_wp2_with fail;refine H.out.mono ?_;rintro e w' ⟨rfl,rfl⟩;go_wp2;go_ret;exact⟨rfl,rfl⟩
end Go.Proofs.YtjkmahmoclobmaaGreat.crc
namespace Go.Proofs.YtjkmahmoclobmaaGreat.crc
open Go.RowKit mem base crcMath
theorem parts_one (w:World)(b:Nat)(t:TypeId)(A:Option Addr)(n c:Nat)(bs:List UInt8)(h:Blk w b t #[.slice A n c])(hl:bs.length=n)(hn:n≤140737488355328)(hv:Vals w [] A (bs.map B)):Parts w (some ⟨b,0,none⟩) [bs]:=
 ⟨[.slice A n c],rfl,Vals.blk 0 h (by simp) (fun i v hv=>by simpa using hv),fun i bs' hb=>by
  rcases i with _|i
  ·simp only[List.getElem?_cons_zero,Option.some.injEq]at hb;subst hb;exact⟨A,c,by simp [hl],by omega,hv⟩
  ·simp at hb⟩

end Go.Proofs.YtjkmahmoclobmaaGreat.crc
namespace Go.Proofs.YtjkmahmoclobmaaGreat.crc
open Go.RowKit mem base crcMath
theorem turn_byte (y:UInt8)(r:Nat)(hr:r<8):∃ x:UInt8,x.toNat=y.toNat^^^2^r∧bits .xor .u8 (y.toNat:Int) (2^r:Int)=(x.toNat:Int):=by
 have hy:=y.toNat_lt;have h2:2^r<256:=Nat.pow_lt_pow_right (a:=2) (by omega) (m:=r) (n:=8) hr;have h3:y.toNat^^^2^r<256:=Nat.xor_lt_two_pow (n:=8) hy h2;refine⟨UInt8.ofNat (y.toNat^^^2^r),?_,?_⟩
 ·rw[UInt8.toNat_ofNat'];exact Nat.mod_eq_of_lt h3
 ·rw[show(2^r:Int)=((2^r:Nat):Int)by simp,u8_xor_nat _ _ hy h2,UInt8.toNat_ofNat',Nat.mod_eq_of_lt h3]

end Go.Proofs.YtjkmahmoclobmaaGreat.crc
namespace Go.Proofs.YtjkmahmoclobmaaGreat.crc
open Go.RowKit mem base
end Go.Proofs.YtjkmahmoclobmaaGreat.crc
namespace Go.Proofs.YtjkmahmoclobmaaGreat.crc
open Go.RowKit mem base crcMath
def PartsOf (w:World)(vs:List Value)(bss:List (List UInt8)):Prop:=
 vs.length=bss.length∧∀ (i:Nat) (bs:List UInt8),bss[i]? = some bs→∃ Ai ci,vs[i]? = some (.slice Ai bs.length ci)∧bs.length≤140737488355328∧Vals w [] Ai (bs.map B)
theorem PartsOf.kept {w w':World}{vs:List Value}{bss:List (List UInt8)}(h:PartsOf w vs bss)(k:Kept [] w w'):PartsOf w' vs bss:=
 ⟨h.1,fun i bs hb=>by
  obtain⟨Ai,ci,h4,h5,h6⟩:=h.2 i bs hb
  exact⟨Ai,ci,h4,h5,h6.kept k (by simp)⟩⟩
theorem PartsOf.parts {w:World}{vs:List Value}{bss:List (List UInt8)}(h:PartsOf w vs bss){A:Option Addr}(hv:Vals w [] A vs):Parts w A bss:=⟨vs,h.1,hv,h.2⟩
theorem PartsOf.append {w:World}{vs us:List Value}{bss css:List (List UInt8)}(h:PartsOf w vs bss)(k:PartsOf w us css):PartsOf w (vs++us) (bss++css):=
 ⟨by simp [h.1,k.1],fun i b hb=>by
  rcases Nat.lt_or_ge i bss.length with hi|hi
  ·rw[List.getElem?_append_left hi]at hb;obtain⟨Ai,ci,h4,h5,h6⟩:=h.2 i b hb;exact⟨Ai,ci,by rw[List.getElem?_append_left (by rw[h.1];exact hi)];exact h4,h5,h6⟩
  ·rw[List.getElem?_append_right hi]at hb;obtain⟨Ai,ci,h4,h5,h6⟩:=k.2 _ b hb
   exact⟨Ai,ci,by rw[List.getElem?_append_right (by rw[h.1];exact hi),h.1];exact h4,h5,h6⟩⟩
theorem PartsOf.one {w:World}(A:Option Addr)(n c:Nat)(bs:List UInt8)(hl:bs.length=n)(hn:n≤140737488355328)(hv:Vals w [] A (bs.map B)):PartsOf w [.slice A n c] [bs]:=
 ⟨rfl,fun i b hb=>by
  rcases i with _|i
  ·simp only[List.getElem?_cons_zero,Option.some.injEq]at hb;subst hb;exact⟨A,c,by simp [hl],by omega,hv⟩
  ·simp at hb⟩
theorem Parts.split {w:World}{A:Option Addr}{bss:List (List UInt8)}(h:Parts w A bss):∃ vs,PartsOf w vs bss∧Vals w [] A vs:=by
 obtain⟨vs,h1,h2,h3⟩:=h;exact⟨vs,⟨h1,h3⟩,h2⟩
theorem PartsOf.cells {w:World}{vs:List Value}{bss:List (List UInt8)}(h:PartsOf w vs bss):∀ u∈vs,u.oneCell'=true:=by
 intro u hu;obtain⟨i,hi,rfl⟩:=List.getElem_of_mem hu;obtain⟨Ai,ci,h4,_⟩:=h.2 i _ (List.getElem?_eq_getElem (by rw[←h.1];exact hi));rw[List.getElem?_eq_getElem hi]at h4;injection h4 with h4;rw[h4]
 rfl

theorem slice_info:(Tryz.prog.info? 41).map (fun i=>(i.zero,i.size,i.bytes))=some (some (.slice none 0 0),1,24):=by kernel_rfl
theorem vals_slice (w:World)(v:Value)(t:TypeId):Vals (w.alloc (.cells #[v] t)) [] (some ⟨w.heap.size,0,none⟩) [v]:=
 Vals.blk 0 (Blk.new w t #[v]) (by simp) (fun i u hu=>by
  rcases i with _|i
  ·simpa using hu
  ·simp at hu)
theorem oneCell_slice (A:Option Addr)(n c:Nat):∀ u∈[Value.slice A n c],u.oneCell'=true:=by
 intro u hu;simp only[List.mem_cons,List.not_mem_nil,or_false]at hu;subst hu
 rfl
theorem own_one (w:World)(e:TypeId)(v:Value):(w.alloc (.cells #[v] e)).ownsRow w.heap.size e 1 (.slice (some ⟨w.heap.size,0,none⟩) 1 1) 1 [v]:=
 ⟨rfl,.inr ⟨_,1,#[v],rfl,Nat.le_refl _,heap_alloc_new w _,Nat.le_refl _,by simp only[maxLen];omega,rfl,rfl⟩⟩
theorem owns_kept {w w':World}{base:Nat}{e:TypeId}{v:Value}{n:Nat}{xs:List Value}{S:List Nat}(h:w.ownsRow base e 1 v n xs)(k:Kept S w w')(hs:∀ i∈S,i<base∨w.heap.size≤i):w'.ownsRow base e 1 v n xs:=by
 refine⟨h.1,?_⟩
 rcases h.2 with hn|⟨g,cap,cur,hv,hb,hg,rest⟩
 ·exact .inl hn
 ·have hlt:=Blk.lt (show Blk w g e cur from hg);exact .inr ⟨g,cap,cur,hv,hb,k.blk (show Blk w g e cur from hg) (fun hm=>by have:=hs g hm;omega),rest⟩
def PartsIn (w:World)(S:List Nat)(vs:List Value)(bss:List (List UInt8)):Prop:=
 vs.length=bss.length∧∀ (i:Nat) (bs:List UInt8),bss[i]? = some bs→∃ Ai ci,vs[i]? = some (.slice Ai bs.length ci)∧bs.length≤140737488355328∧Vals w S Ai (bs.map B)
theorem PartsIn.of {w:World}{S:List Nat}{vs:List Value}{bss:List (List UInt8)}(h:PartsIn w S vs bss):PartsOf w vs bss:=
 ⟨h.1,fun i bs hb=>by
  obtain⟨Ai,ci,h4,h5,h6⟩:=h.2 i bs hb
  exact⟨Ai,ci,h4,h5,h6.mono (by simp)⟩⟩
theorem PartsIn.kept {w w':World}{S S':List Nat}{vs:List Value}{bss:List (List UInt8)}(h:PartsIn w S vs bss)(k:Kept S' w w')(hs:∀ i∈S',i∈S):PartsIn w' S vs bss:=
 ⟨h.1,fun i bs hb=>by
  obtain⟨Ai,ci,h4,h5,h6⟩:=h.2 i bs hb
  exact⟨Ai,ci,h4,h5,h6.kept k hs⟩⟩
theorem PartsIn.away {w:World}{S S':List Nat}{vs:List Value}{bss:List (List UInt8)}(h:PartsIn w S vs bss)(hS:∀ i∈S',i∈S∨w.heap.size≤i):PartsIn w S' vs bss:=
 ⟨h.1,fun i bs hb=>by
  obtain⟨Ai,ci,h4,h5,h6⟩:=h.2 i bs hb
  exact⟨Ai,ci,h4,h5,h6.away hS⟩⟩
theorem PartsIn.less {w:World}{S S':List Nat}{vs:List Value}{bss:List (List UInt8)}(h:PartsIn w S vs bss)(hs:∀ i∈S',i∈S):PartsIn w S' vs bss:=
 ⟨h.1,fun i bs hb=>by
  obtain⟨Ai,ci,h4,h5,h6⟩:=h.2 i bs hb
  exact⟨Ai,ci,h4,h5,h6.mono hs⟩⟩
theorem PartsIn.nil (w:World)(S:List Nat):PartsIn w S [] []:=⟨rfl,by simp⟩
theorem PartsIn.snoc {w:World}{S:List Nat}{vs:List Value}{bss:List (List UInt8)}(h:PartsIn w S vs bss)(A:Option Addr)(n c:Nat)(bs:List UInt8)(hl:bs.length=n)(hn:n≤140737488355328)(hv:Vals w S A (bs.map B)):
  PartsIn w S (vs++[.slice A n c]) (bss++[bs]):=
 ⟨by simp [h.1],fun i b hb=>by
  rcases Nat.lt_or_ge i bss.length with hi|hi
  ·rw[List.getElem?_append_left hi]at hb;obtain⟨Ai,ci,h4,h5,h6⟩:=h.2 i b hb;exact⟨Ai,ci,by rw[List.getElem?_append_left (by rw[h.1];exact hi)];exact h4,h5,h6⟩
  ·rw[List.getElem?_append_right hi]at hb
   have hi2:i-bss.length=0:=by
    have:=(List.getElem?_eq_some_iff.1 hb).1
    simp at this
    omega
   rw[hi2]at hb;simp only[List.getElem?_cons_zero,Option.some.injEq]at hb;subst hb;refine⟨A,c,?_,by omega,hv⟩;rw[List.getElem?_append_right (by rw[h.1];exact hi),h.1,hi2,hl]
   rfl⟩
theorem madeSlices (n:Nat):madeCells #[Value.slice none 0 0] n=(List.replicate n (Value.slice none 0 0)).toArray:=by
 apply Array.ext_getElem?
 intro i
 by_cases h:i<n
 ·simp [madeCells,h,Nat.mod_one]
 ·simp [madeCells,h]
theorem set_nil (vs:List Value)(k j:Nat)(v z:Value)(hl:vs.length=j)(hj:j<k):(vs++List.replicate (k-j) z).set j v=(vs++[v])++List.replicate (k-(j+1)) z:=by
 rw[List.set_append,hl,if_neg (by omega),Nat.sub_self,show k-j=(k-(j+1))+1 by omega,List.replicate_succ,List.set_cons_zero,List.append_assoc]
 rfl
end Go.Proofs.YtjkmahmoclobmaaGreat.crc
