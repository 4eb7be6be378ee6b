import Derived.Test.YtjkmahmoclobmaaGreatYRowCore
import Derived.StillTailTactics
import Derived.Test.YtjkmahmoclobmaaGreatYFar
namespace Go.Proofs.YtjkmahmoclobmaaGreat.ref
open Go.RowKit mem row
theorem mod_any (x n:Int)(w:World)(hn:0<n)(hn2:n≤4611686018427387904):
  Calls Tryz.prog 65 #[.int .i64 x,.int .i64 n] w fun e w'=>e= .returned (.int .i64 (x%n))∧w=w':=by
 have hne:(n==0)=false:=beq_eq_false_iff_ne.2 (by omega);have h1:=Int.tmod_lt_of_pos x hn;have h2:=Int.lt_tmod_of_pos x hn
 have h3:Hid (x%n=if x.tmod n<0 then x.tmod n+n else x.tmod n):=by
  unfold Hid;have h4:x=n*x.tdiv n+x.tmod n:=(Int.mul_tdiv_add_tmod x n).symm
  have h5:x%n=x.tmod n%n:=by
   conv=>lhs;rw[h4]
   rw[Int.mul_add_emod_self_left]
  split
  ·rw[h5,←Int.add_emod_right,Int.emod_eq_of_lt (by omega) (by omega)]
  ·rw[h5,Int.emod_eq_of_lt (by omega) (by omega)]
 by_cases hk:x.tmod n<0
 ·have HK:=hide (show(n+x.tmod n=x%n)by rw[h3.out,if_pos hk];omega);have HK2:=hide (show(x.tmod n+n=x%n)by rw[h3.out,if_pos hk]);clear h3;go_enter Tryz.func65,Tryz.ntmps65;go_wp2;go_ret;exact⟨congrArg (fun q=>Ending.returned (.int .i64 q)) HK2.out,rfl⟩
 ·have HK2:=hide (show(x.tmod n=x%n)by rw[h3.out,if_neg hk])
  have hk':0≤x.tmod n:=by omega
  clear h3;go_enter Tryz.func65,Tryz.ntmps65;go_wp2;go_ret;exact⟨congrArg (fun q=>Ending.returned (.int .i64 q)) HK2.out,rfl⟩

end Go.Proofs.YtjkmahmoclobmaaGreat.ref
namespace Go.Proofs.YtjkmahmoclobmaaGreat.ref
open Go.RowKit mem row
theorem within_any (n a b:Int)(w:World):
  Calls Tryz.prog 69 #[.int .i64 n,.int .i64 a,.int .i64 b] w fun e w'=>e= .returned (.bool (decide (a≤n)&&decide (n≤b)))∧w=w':=by
 by_cases h:a≤n
 ·go_enter Tryz.func69,Tryz.ntmps69;go_wp2;go_ret;exact⟨by simp [h],rfl⟩
 ·go_enter Tryz.func69,Tryz.ntmps69;go_wp2;go_ret;exact⟨by rw[show decide (a≤n)=false from decide_eq_false (by omega)];rfl,rfl⟩
theorem within_yes (n a b:Int)(w:World)(h:a≤n∧n≤b):
  Calls Tryz.prog 69 #[.int .i64 n,.int .i64 a,.int .i64 b] w fun e w'=>e= .returned (.bool true)∧w=w':=
 (within_any n a b w).mono fun e w' ⟨he,hw⟩=>⟨by rw[he];simp [h.1,h.2],hw⟩
theorem within_no (n a b:Int)(w:World)(h:¬(a≤n∧n≤b)):
  Calls Tryz.prog 69 #[.int .i64 n,.int .i64 a,.int .i64 b] w fun e w'=>e= .returned (.bool false)∧w=w':=
 (within_any n a b w).mono fun e w' ⟨he,hw⟩=>⟨by rw[he];congr 2;rw[←Bool.not_eq_true,Bool.and_eq_true,decide_eq_true_iff,decide_eq_true_iff];exact h,hw⟩
def mostOf (x:Int):Int:=if x=1 then 255 else if x=2 then 65535 else if x=4 then 4294967295 else -1

theorem most_any (x:Int)(w:World):
  Calls Tryz.prog 180 #[.int .i64 x] w fun e w'=>e= .returned (.int .i64 (mostOf x))∧w=w':=by
 by_cases h1:x=1
 ·subst h1;go_enter Tryz.func180,Tryz.ntmps180;go_wp2;go_ret;exact⟨rfl,rfl⟩
 by_cases h2:x=2
 ·subst h2;go_enter Tryz.func180,Tryz.ntmps180;go_wp2;go_ret;exact⟨rfl,rfl⟩
 by_cases h4:x=4
 ·subst h4;go_enter Tryz.func180,Tryz.ntmps180;go_wp2;go_ret;exact⟨rfl,rfl⟩
 ·have e:Hid (mostOf x= -1):=hide (by simp [mostOf,h1,h2,h4]);have e1:(x==1)=false:=beq_eq_false_iff_ne.2 h1;have e2:(x==2)=false:=beq_eq_false_iff_ne.2 h2;have e4:(x==4)=false:=beq_eq_false_iff_ne.2 h4;go_enter Tryz.func180,Tryz.ntmps180;go_wp2;go_ret;exact⟨by rw[e.out];rfl,rfl⟩

theorem cut_le (m i:Nat)(bs:List UInt8):0+((bs.drop i).take m).length≤(List.replicate m (0:UInt8)).length:=by simp;omega
theorem size8:(Tryz.prog.info? 5).map (·.size)=some 1:=by kernel_rfl
theorem part_any (P:Option Addr)(n c:Nat)(i j:Int)(bs:List UInt8)(w:World)(hv:Vals w [] P (bs.map B))(hl:bs.length=n)(hnc:n≤c)(hi:0≤i)(hij:i≤j)(hj:j≤n)(hn:n≤140737488355328):
  Calls Tryz.prog 72 #[.slice P n c,.int .i64 i,.int .i64 j] w fun e w'=>
   ∃ g,e= .returned (.slice (some ⟨g,0,none⟩) (j-i).toNat (j-i).toNat)∧w.heap.size≤g∧Arr w' g (j-i).toNat ((bs.drop i.toNat).take (j-i).toNat)∧Kept [] w w':=by
 obtain⟨i,rfl⟩:=Int.eq_ofNat_of_zero_le hi;obtain⟨m,hm⟩:∃ m:Nat,j=i+m:=⟨(j-i).toNat,by omega⟩;subst hm;rw[show((i:Int)+m-i).toNat=m by omega,Int.toNat_natCast];have HV:=hide hv;have HL:=hide hl;clear hv hl;have hmk:=run_make_row' (P:=Tryz.prog) 41 5 (.int .u8 0) 1 (by kernel_rfl) (by kernel_rfl) rfl .i64 .i64 m (by omega) (by omega)
 have hs:((i:Int)+m-i)=m:=by omega
 have hmade:Arr (w.alloc (.cells (madeCells #[.int .u8 0] m) 5)) w.heap.size m (List.replicate m 0):=
  ⟨_,Blk.new _ _ _,by rw[size_madeCells],by simp,fun k x hx=>by
   rw[List.getElem?_replicate]at hx
   split at hx
   ·rename_i hk
    injection hx with hx;subst hx;exact made_B m k hk
   ·cases hx⟩
 have HM:=hide hmade;have HV1:Hid (Vals (w.alloc (.cells (madeCells #[.int .u8 0] m) 5)) [] P (bs.map B)):=hide (HV.out.kept ((Kept.refl [] w).alloc _) (by simp));have hxl:Hid (((bs.drop i).take m).length=m):=hide (by have:=HL.out;simp;omega);clear hmade HV;have HC:Hid (Vals (w.alloc (.cells (madeCells #[.int .u8 0] m) 5)) [] (P.map (fun x=>x.add i)) (((bs.drop i).take m).map B)):=hide (by have:=HV1.out.cut i m;simpa using this);have HN:Hid (((bs.drop i).take m).length=Nat.min m m):=hide (by rw[hxl.out];exact(Nat.min_self m).symm)
 by_cases hc:c=i
 ·have H0:Hid (((bs.drop i).take m)=[]):=hide (List.eq_nil_of_length_eq_zero (by rw[hxl.out];omega));have HV0:Hid (Vals (w.alloc (.cells (madeCells #[.int .u8 0] m) 5)) [] P (((bs.drop i).take m).map B)):=hide (by rw[H0.out];exact Vals.nil _ _ _);go_enter Tryz.func72,Tryz.ntmps72
  go_wp2_with (
   with_reducible refine wpList_copy_bytes (o:=⟨some 17,_,_,_,_,_⟩) ?_ (.tmp 12) (.tmp 16) 41 41 ?_ Tryz.underlying41 size8 (some ⟨w.heap.size,0,none⟩) P m m m 0 ?_ ?_ ((bs.drop i).take m) HN.out [] HV0.out w.heap.size 0 m (List.replicate m 0) (fun _=>⟨rfl,HM.out,cut_le m i bs⟩) ?_
   ·rfl
   ·rfl
   ·rfl
   ·exact congrArg (fun q=>Value.slice P q 0) (Nat.add_sub_cancel_left (n:=i) (m:=m))
   intro w2 hk2 ha2 hn2)
  go_ret;refine⟨_,rfl,Nat.le_refl _,?_,?_⟩
  ·have:=ha2 HM.out
   rw[over_all _ _ (by rw[hxl.out];simp)]at this;exact this
  ·exact((Kept.refl [] w).alloc _).trans hk2 (by simp)
 ·go_enter Tryz.func72,Tryz.ntmps72
  go_wp2_with (
   with_reducible refine wpList_copy_bytes (o:=⟨some 17,_,_,_,_,_⟩) ?_ (.tmp 12) (.tmp 16) 41 41 ?_ Tryz.underlying41 size8 (some ⟨w.heap.size,0,none⟩) (P.map (fun x=>x.add i)) m m m (c-i) ?_ ?_ ((bs.drop i).take m) HN.out [] HC.out w.heap.size 0 m (List.replicate m 0) (fun _=>⟨rfl,HM.out,cut_le m i bs⟩) ?_
   ·rfl
   ·rfl
   ·rfl
   ·exact congrArg (fun q=>Value.slice (P.map (fun x=>x.add i)) q (c-i)) (Nat.add_sub_cancel_left (n:=i) (m:=m))
   intro w2 hk2 ha2 hn2)
  go_ret;refine⟨_,rfl,Nat.le_refl _,?_,?_⟩
  ·have:=ha2 HM.out
   rw[over_all _ _ (by rw[hxl.out];simp)]at this;exact this
  ·exact((Kept.refl [] w).alloc _).trans hk2 (by simp)
end Go.Proofs.YtjkmahmoclobmaaGreat.ref
namespace Go.Proofs.YtjkmahmoclobmaaGreat.ref
open Go.RowKit mem row
set_option maxRecDepth 100000
def RefAt (w:World)(p b:Nat)(R:Row):Prop:=
 Blk w p 221 #[.slice (some ⟨b,0,none⟩) R.bs.length R.bs.length,.int .i64 R.pos]∧Arr w b R.bs.length R.bs∧R.pos≤R.bs.length∧R.bs.length≤65536

section
variable {w w':World}{p b:Nat}{R:Row}
theorem RefAt.kept {S:List Nat}(h:RefAt w p b R)(k:Kept S w w')(hp:p∉S)(hb:b∉S):RefAt w' p b R:=by
 obtain⟨h1,h2,h3⟩:=h;exact⟨k.blk h1 hp,h2.kept k hb,h3⟩
theorem RefAt.drewN (h:RefAt w p b R)(k:Nat):RefAt (w.drewN k) p b R:=h
theorem RefAt.drew (h:RefAt w p b R):RefAt w.drew p b R:=h
theorem RefAt.c0 (h:RefAt w p b R):w.cell? ⟨p,0,none⟩=some (.slice (some ⟨b,0,none⟩) R.bs.length R.bs.length):=h.1.cell 0
theorem RefAt.c1 (h:RefAt w p b R):w.cell? ⟨p,1,none⟩=some (.int .i64 R.pos):=h.1.cell 1
theorem RefAt.f1 (h:RefAt w p b R):w.frozen? ⟨p,1,none⟩=false:=h.1.frozen 1
theorem RefAt.pos_le (h:RefAt w p b R):R.pos≤R.bs.length:=h.2.2.1
theorem RefAt.len_le (h:RefAt w p b R):R.bs.length≤65536:=h.2.2.2
theorem RefAt.ne_ (h:RefAt w p b R):b≠p:=h.2.1.ne_ h.1 (by decide)
theorem RefAt.lt (h:RefAt w p b R):p<w.heap.size:=h.1.lt
theorem RefAt.blt (h:RefAt w p b R):b<w.heap.size:=h.2.1.lt
theorem RefAt.vals {S:List Nat}(h:RefAt w p b R)(hb:b∉S):Vals w S (some ⟨b,0,none⟩) (R.bs.map B):=h.2.1.vals hb
theorem RefAt.step (h:RefAt w p b R)(hlt:R.pos<R.bs.length)(x:UInt8)(q:Int)(hq:q=((R.pos+1:Nat):Int)):
  RefAt ((w.setCell ⟨b,R.pos,none⟩ (B x)).setCell ⟨p,1,none⟩ (.int .i64 q)) p b ⟨R.bs.set R.pos x,R.pos+1⟩:=by
 have hne:=h.ne_;subst hq;obtain⟨h1,h2,h3,h4⟩:=h;refine⟨?_,?_,by simp;omega,by simpa using h4⟩
 ·simpa using(h1.far_ (Ne.symm hne) _ _).set_ 1 _
 ·simpa using(h2.set_ x).far_ hne _ _
theorem RefAt.moved (h:RefAt w p b R)(n:Nat)(hn:R.pos+n≤R.bs.length)(q:Int)(hq:q=((R.pos+n:Nat):Int)):RefAt (w.setCell ⟨p,1,none⟩ (.int .i64 q)) p b ⟨R.bs,R.pos+n⟩:=by
 have hne:=h.ne_;subst hq;obtain⟨h1,h2,h3,h4⟩:=h;exact⟨h1.set_ 1 _,h2.far_ hne _ _,hn,h4⟩
end
def putSt (R:Row)(x:Nat)(l:List Int)(j:Nat):Row:=⟨over R.bs R.pos ((bytesOf x l).take j),R.pos+j⟩

theorem putSt_len (R:Row)(x:Nat)(l:List Int)(j:Nat)(hj:j≤x*l.length)(hr:R.pos+j≤R.bs.length):(putSt R x l j).bs.length=R.bs.length:=
 over_length _ _ _ (by rw[List.length_take,bytesOf_length];omega)
theorem putSt_step (R:Row)(x:Nat)(l:List Int)(j:Nat)(hj:j<x*l.length)(hr:R.pos+j<R.bs.length):(⟨(putSt R x l j).bs.set (R.pos+j) (row.byteOf x l j),R.pos+j+1⟩:Row)=putSt R x l (j+1):=by
 unfold putSt
 have hl:((bytesOf x l).take j).length=j:=by rw[List.length_take,bytesOf_length];omega
 rw[bytesOf_take x l j hj];simp only[Row.mk.injEq];refine⟨?_,by omega⟩;rw[←over_snoc _ _ _ _ (by rw[hl];exact hr),hl]
theorem and255 (y:Int)(h0:0≤y)(h1:y<9223372036854775808):bits .and .i64 y 255=y%256:=by
 obtain⟨n,rfl⟩:=Int.eq_ofNat_of_zero_le h0;rw[show(255:Int)=((255:Nat):Int)from rfl,i64_and_nat _ _ (by omega) (by omega),show(255:Nat)=2^8-1 from rfl,Nat.and_two_pow_sub_one_eq_mod]
 simp

theorem most_yes (x:Int)(w:World)(hx:isW x=true):
  Calls Tryz.prog 180 #[.int .i64 x] w fun e w'=>∃ m:Int,e= .returned (.int .i64 m)∧(0≤m∧m≤4294967295)∧(∀ n,fitsW x n=true↔0≤n∧n≤m)∧w=w':=by
 have hx':x=1∨x=2∨x=4:=by simpa [isW,or_assoc]using hx
 refine(most_any x w).mono fun e w' ⟨he,hw⟩=>⟨_,he,?_,?_,hw⟩
 ·rcases hx' with rfl|rfl|rfl<;>decide
 ·intro n
  rcases hx' with rfl|rfl|rfl
  ·simp [fitsW,mostOf];omega
  ·simp [fitsW,mostOf];omega
  ·simp [fitsW,mostOf];omega
theorem most_no (x:Int)(w:World)(hx:isW x=false):
  Calls Tryz.prog 180 #[.int .i64 x] w fun e w'=>e= .returned (.int .i64 (-1))∧w=w':=by
 refine(most_any x w).mono fun e w' ⟨he,hw⟩=>⟨?_,hw⟩
 have h1:x≠1:=fun h=>by subst h;cases hx
 have h2:x≠2:=fun h=>by subst h;cases hx
 have h4:x≠4:=fun h=>by subst h;cases hx
 rw[he]
 simp [mostOf,h1,h2,h4]

theorem rput_width (p:Nat)(x:Int)(L:Option Addr)(n c:Nat)(w:World)(hx:isW x=false):
  Calls Tryz.prog 131 #[.pointer (some ⟨p,0,none⟩),.int .i64 x,.slice L n c] w fun e w'=>e= .returned (.bool false)∧∃ k,w'=w.drewN k:=by
 have HX:=hide hx;clear hx;go_enter Tryz.func131,Tryz.ntmps131;go_wp2_with (go_at_call 180;refine(most_no _ _ HX.out).mono ?_;rintro e w' ⟨rfl,rfl⟩)
 go_quiet (fail)
 go_wp2;go_ret;exact⟨rfl,_,rfl⟩

theorem rput_ok (p b:Nat)(R:Row)(x:Nat)(L:Option Addr)(l:List Int)(c:Nat)(w:World)(h:RefAt w p b R)(hx:isW (x:Int)=true)(hl:Vals w [p,b] L (l.map I))(hf:∀ n∈l,fitsW x n=true)
  (hr:R.pos+x*l.length≤R.bs.length):
  Calls Tryz.prog 131 #[.pointer (some ⟨p,0,none⟩),.int .i64 x,.slice L l.length c] w fun e w'=>
   e= .returned (.bool true)∧RefAt w' p b ⟨over R.bs R.pos (bytesOf x l),R.pos+x*l.length⟩∧Kept [p,b] w w':=by
 have hlen:=h.len_le;have hpl:=h.pos_le
 have hx4:0<x∧x≤4:=by
  have hx':(x:Int)=1∨(x:Int)=2∨(x:Int)=4:=by simpa [isW,or_assoc]using hx
  omega
 obtain⟨hx0,hx4⟩:=hx4
 have hll:l.length≤R.bs.length:=by have:=Nat.le_mul_of_pos_left l.length hx0;omega
 have hc0:=h.c0;have hc1:=h.c1;have H:=hide h;have HL:=hide hl;have HF:=hide hf;have HX:=hide hx;clear h hl hf hx;have d1:decide (R.bs.length<l.length)=false:=decide_eq_false (by omega)
 have hmul:(l.length:Int)*(x:Int)=((x*l.length:Nat):Int):=by rw[Int.natCast_mul,Int.mul_comm]
 have g1:IntKind.i64.wrap ((l.length:Int)*(x:Int))=(l.length:Int)*(x:Int):=IntWalk.i64_in _ (by rw[hmul];omega);have g2:IntKind.i64.wrap ((R.bs.length:Int)-(R.pos:Int))=(R.bs.length:Int)-(R.pos:Int):=IntWalk.i64_in _ (by omega);have d2:decide ((R.bs.length:Int)-(R.pos:Int)<(l.length:Int)*(x:Int))=false:=decide_eq_false (by rw[hmul];omega);have HM:=hide hmul;clear hmul;go_enter Tryz.func131,Tryz.ntmps131;go_wp2_with fail;refine(most_yes _ _ HX.out).mono ?_;rintro e w' ⟨m,rfl,⟨hm,hm2⟩,hfm,rfl⟩;have HM2:=hide hm2;clear hm2;have HFM:=hide hfm;clear hfm;have d0:decide (m<0)=false:=decide_eq_false (by omega);go_wp2
 go_quiet (fail)
 have H1:=hide (H.out.drewN nq);have K1:Hid (Kept [p,b] w (w.drewN nq)):=hide ((Kept.refl _ w).drewN nq);generalize w.drewN nq=w1 at*;clear d0 d1 d2 g1 g2 hc0 hc1;go_wp2
 go_loop [8] (fun i=>∃ k:Nat,k≤l.length∧i= .int .i64 k) (fun i=>l.length-(intOf i).toNat)
 case atStart=>exact⟨0,Nat.zero_le _,rfl⟩
 case round=>
  obtain⟨k,hk,rfl⟩:=hrel
  by_cases hlt:k<l.length
  ·obtain⟨ad,rfl,hn,hc⟩:=(HL.out.kept K1.out (fun _ h=>h)) k (I l[k]) (by simp [hlt]);have hfk:=hide ((HFM.out _).1 (HF.out l[k] (List.getElem_mem hlt)));unfold I at hc;go_wp2_with (go_at_call 69;refine(within_yes _ _ _ _ hfk.out).mono ?_;rintro e w' ⟨rfl,rfl⟩)
   go_round
   case rel=>exact⟨k+1,by omega,by go_num⟩
   case measure=>simp [intOf];omega
  ·obtain rfl:k=l.length:=by omega
   go_wp2;clear HM;have HR:=hide hr;clear hr
   go_loopw [9] (fun i wr=>∃ q:Nat,q≤l.length∧i= .int .i64 q∧RefAt wr p b (putSt R x l (x*q))∧Kept [p,b] w wr) (fun i wr=>l.length-(intOf i).toNat)
   case atStart=>exact⟨0,Nat.zero_le _,rfl,by simpa [putSt,over_nil]using H1.out,K1.out⟩
   case round=>
    obtain⟨q,hq,rfl,hra,hka⟩:=hrel
    by_cases hlt:q<l.length
    ·obtain⟨ad,rfl,hn,hc⟩:=(HL.out.kept hka (fun _ h=>h)) q (I (l.getD q 0)) (getI l q hlt);have hz0:Hid (0≤l.getD q 0∧l.getD q 0≤m):=hide ((HFM.out _).1 (HF.out _ (by rw[List.getD_eq_getElem?_getD,List.getElem?_eq_getElem hlt];exact List.getElem_mem hlt)));obtain⟨z,hz⟩:∃ z,z=l.getD q 0:=⟨_,rfl⟩;rw[←hz]at hc hz0;unfold I at hc;have Hz:=hide hz;clear hz;have RA:=hide hra;have KA:=hide hka;clear hra hka;go_wp2
     go_loopw [10,11] (fun v k wr=>∃ r:Nat,r≤x∧k= .int .i64 r∧v= .int .i64 (z/256^r)∧RefAt wr p b (putSt R x l (x*q+r))∧Kept [p,b] w wr) (fun v k wr=>x-(intOf k).toNat)
     case atStart=>exact⟨0,Nat.zero_le _,rfl,by simp,by simpa using RA.out,KA.out⟩
     case round=>
      obtain⟨r,hrx,rfl,rfl,hrb,hkb⟩:=hrel
      by_cases hlr:r<x
      ·have hd0:(0:Int)≤z/256^r:=Int.ediv_nonneg hz0.out.1 (Int.pow_nonneg (by decide));have hd1:z/256^r≤m:=Int.le_trans (Int.ediv_le_self _ hz0.out.1) hz0.out.2;have hnext:Hid (z/256^r/256=z/256^(r+1)):=hide (by rw[Int.pow_succ,Int.ediv_ediv_of_nonneg (Int.pow_nonneg (by decide))]);obtain⟨y,hy⟩:∃ y,y=z/256^r:=⟨_,rfl⟩;have HY:=hide hy;rw[←hy]at hd0 hd1 hnext ⊢;clear hy
       have hJ:x*q+r<x*l.length:=by
        have h1:x*q+x≤x*l.length:=by rw[←Nat.mul_succ];exact Nat.mul_le_mul_left x hlt
        omega
       have hbyte:Hid (Value.int .u8 (y%256)=B (row.byteOf x l (x*q+r))):=hide (row.byteOf_val x l (x*q+r) z y (by rw[Nat.mul_add_div hx0,Nat.div_eq_of_lt hlr,Nat.add_zero];exact Hz.out) (by rw[Nat.mul_add_mod,Nat.mod_eq_of_lt hlr];exact HY.out));have hnj:Hid (x*q+r+1=x*q+(r+1)):=hide (by omega);generalize hJJ:x*q+r=J at*;have HJJ:=hide hJJ;clear hJJ
       have hpj:R.pos+J<R.bs.length:=by have:=HR.out;omega
       have hsl:=putSt_len R x l J (by omega) (by omega)
       have hc0:wr.cell? ⟨p,0,none⟩=some (.slice (some ⟨b,0,none⟩) R.bs.length R.bs.length):=by have:=hrb.c0;rwa [hsl]at this
       have hc1:wr.cell? ⟨p,1,none⟩=some (.int .i64 ((R.pos:Int)+J)):=hrb.c1;have hf1:=hrb.f1;obtain⟨v0,hv0⟩:=hrb.2.1.any (i:=R.pos+J) (by rw[hsl];exact hpj);have hvf:=hrb.2.1.frozen (R.pos+J);have hne:=hrb.ne_
       have hc1s:∀ v,(wr.setCell ⟨b,R.pos+J,none⟩ v).cell? ⟨p,1,none⟩=some (.int .i64 ((R.pos:Int)+J)):=fun v=>by rw[World.cell?_setCell_other _ _ _ _ (by intro e;injection e with e;exact hne e)];exact hc1
       have hband:bits .and .i64 y 255=y%256:=and255 y hd0 (by have:=HM2.out;omega);have HRB:=hide hrb;have HSL:=hide hsl;have HNE:=hide hne;clear hrb hsl hne
       have g0:(0:Int)≤(R.pos:Int)+J:=by omega
       have g1:((R.pos:Int)+J).toNat=R.pos+J:=by omega
       have g2:(R.pos:Int)+J<R.bs.length:=by omega
       go_wp2
       go_still_tail 12,(by kernel_rfl)
       change wpList _ _ _ _ _ (World.drew wr);go_wp2;go_roundw
       case rel=>
        rw[hbyte.out];refine⟨r+1,by omega,by go_num,congrArg (fun q=>Value.int .i64 q) hnext.out,?_,((hkb.set_ (.inl (by simp)) _ _).set_ (.inl (by simp)) _ _).drew⟩
        have:=HRB.out.step (by rw[HSL.out];exact hpj) (row.byteOf x l J) ((R.pos:Int)+J+1) (by simp [putSt])
        rw[←hnj.out,←putSt_step R x l J hJ hpj];exact this.drew
       case measure=>simp [intOf];omega
      ·obtain rfl:r=x:=by omega
       rw[←Nat.mul_succ]at hrb;go_wp2;go_roundw
       case rel=>exact⟨q+1,by omega,by go_num,hrb,hkb⟩
       case measure=>simp [intOf];omega
    ·obtain rfl:q=l.length:=by omega
     go_wp2;go_ret;refine⟨rfl,?_,hka⟩
     have e:putSt R x l (x*l.length)=⟨over R.bs R.pos (bytesOf x l),R.pos+x*l.length⟩:=by
      unfold putSt;rw[List.take_of_length_le (by rw[bytesOf_length];omega)]
     rwa [e]at hra
end Go.Proofs.YtjkmahmoclobmaaGreat.ref
namespace Go.Proofs.YtjkmahmoclobmaaGreat.ref
open Go.RowKit mem row
set_option maxRecDepth 100000
theorem rput_long (p b:Nat)(R:Row)(x:Nat)(L:Option Addr)(l:List Int)(c:Nat)(w:World)(h:RefAt w p b R)(hx:isW (x:Int)=true)(hm:l.length≤140737488355328)
  (hr:R.bs.length<R.pos+x*l.length):
  Calls Tryz.prog 131 #[.pointer (some ⟨p,0,none⟩),.int .i64 x,.slice L l.length c] w fun e w'=>e= .returned (.bool false)∧∃ k,w'=w.drewN k:=by
 have hlen:=h.len_le;have hpl:=h.pos_le
 have hx':(x:Int)=1∨(x:Int)=2∨(x:Int)=4:=by simpa [isW,or_assoc]using hx
 have hx4:x=1∨x=2∨x=4:=by omega
 have hc0:=h.c0;have hc1:=h.c1;have HX:=hide hx;have g2:IntKind.i64.wrap ((R.bs.length:Int)-(R.pos:Int))=(R.bs.length:Int)-(R.pos:Int):=IntWalk.i64_in _ (by omega)
 have hmul:(l.length:Int)*(x:Int)=((x*l.length:Nat):Int):=by rw[Int.natCast_mul,Int.mul_comm]
 have hxm:x*l.length≤4*140737488355328:=Nat.mul_le_mul (by omega) hm;have g1:IntKind.i64.wrap ((l.length:Int)*(x:Int))=(l.length:Int)*(x:Int):=IntWalk.i64_in _ (by rw[hmul];omega);have d2:decide ((R.bs.length:Int)-(R.pos:Int)<(l.length:Int)*(x:Int))=true:=decide_eq_true (by rw[hmul];omega);clear h hx hx' hx4 hmul hxm hr
 by_cases hb:R.bs.length<l.length
 ·have d1:decide (R.bs.length<l.length)=true:=decide_eq_true hb;go_enter Tryz.func131,Tryz.ntmps131;go_wp2_with fail;refine(most_yes _ _ HX.out).mono ?_;rintro e w' ⟨m,rfl,⟨hm0,_⟩,_,rfl⟩;have d0:decide (m<0)=false:=decide_eq_false (by omega);go_wp2
  go_quiet (fail)
  go_wp2;go_ret;exact⟨rfl,_,rfl⟩
 ·have d1:decide (R.bs.length<l.length)=false:=decide_eq_false hb;go_enter Tryz.func131,Tryz.ntmps131;go_wp2_with fail;refine(most_yes _ _ HX.out).mono ?_;rintro e w' ⟨m,rfl,⟨hm0,_⟩,_,rfl⟩;have d0:decide (m<0)=false:=decide_eq_false (by omega);go_wp2
  go_quiet (fail)
  go_wp2;go_ret;exact⟨rfl,_,rfl⟩

theorem rput_unfit (p b:Nat)(R:Row)(x:Nat)(L:Option Addr)(l:List Int)(c:Nat)(w:World)(h:RefAt w p b R)(hx:isW (x:Int)=true)(hl:Vals w [] L (l.map I))(hf:∃ n∈l,fitsW x n=false)
  (hr:R.pos+x*l.length≤R.bs.length):
  Calls Tryz.prog 131 #[.pointer (some ⟨p,0,none⟩),.int .i64 x,.slice L l.length c] w fun e w'=>e= .returned (.bool false)∧∃ k,w'=w.drewN k:=by
 have hlen:=h.len_le;have hpl:=h.pos_le
 have hx4:0<x∧x≤4:=by
  have hx':(x:Int)=1∨(x:Int)=2∨(x:Int)=4:=by simpa [isW,or_assoc]using hx
  omega
 obtain⟨hx0,hx4⟩:=hx4
 have hll:l.length≤R.bs.length:=by have:=Nat.le_mul_of_pos_left l.length hx0;omega
 have hc0:=h.c0;have hc1:=h.c1;have HL:=hide hl;have HF:=hide hf;have HX:=hide hx;clear h hl hf hx;have d1:decide (R.bs.length<l.length)=false:=decide_eq_false (by omega)
 have hmul:(l.length:Int)*(x:Int)=((x*l.length:Nat):Int):=by rw[Int.natCast_mul,Int.mul_comm]
 have g1:IntKind.i64.wrap ((l.length:Int)*(x:Int))=(l.length:Int)*(x:Int):=IntWalk.i64_in _ (by rw[hmul];omega);have g2:IntKind.i64.wrap ((R.bs.length:Int)-(R.pos:Int))=(R.bs.length:Int)-(R.pos:Int):=IntWalk.i64_in _ (by omega);have d2:decide ((R.bs.length:Int)-(R.pos:Int)<(l.length:Int)*(x:Int))=false:=decide_eq_false (by rw[hmul];omega);clear hmul;go_enter Tryz.func131,Tryz.ntmps131;go_wp2_with fail;refine(most_yes _ _ HX.out).mono ?_;rintro e w' ⟨m,rfl,⟨hm,hm2⟩,hfm,rfl⟩;have HFM:=hide hfm;clear hfm hm2;have d0:decide (m<0)=false:=decide_eq_false (by omega);go_wp2
 go_quiet (fail)
 clear d0 d1 d2 g1 g2 hc0 hc1;go_wp2
 go_loop [8] (fun i=>∃ k:Nat,k≤l.length∧i= .int .i64 k∧Hid (∀ j (h:j<l.length),j<k→fitsW x l[j]=true)) (fun i=>l.length-(intOf i).toNat)
 case atStart=>exact⟨0,Nat.zero_le _,rfl,hide (fun _ _ h=>absurd h (by omega))⟩
 case round=>
  obtain⟨k,hk,rfl,hall⟩:=hrel
  by_cases hlt:k<l.length
  ·obtain⟨ad,rfl,hn,hc⟩:=HL.out k (I l[k]) (by simp [hlt]);unfold I at hc
   by_cases hfk:fitsW x l[k]=true
   ·have HK:=hide hfk;clear hfk;go_wp2_with (go_at_call 69;refine(within_yes _ _ _ _ ((HFM.out _).1 HK.out)).mono ?_;rintro e w' ⟨rfl,rfl⟩)
    go_round
    case rel=>
     refine⟨k+1,by omega,by go_num,hide (fun j h hj=> ?_)⟩
     rcases Nat.lt_or_ge j k with h1|h1
     ·exact hall.out j h h1
     ·obtain rfl:j=k:=by omega
      exact HK.out
    case measure=>simp [intOf];omega
   ·have HK:=hide hfk;clear hfk;go_wp2_with (go_at_call 69;refine(within_no _ _ _ _ (fun hh=>HK.out ((HFM.out _).2 hh))).mono ?_;rintro e w' ⟨rfl,rfl⟩);go_ret;exact⟨rfl,_,rfl⟩
  ·exfalso
   obtain⟨n,hn,hnf⟩:=HF.out;obtain⟨j,hj,rfl⟩:=List.getElem_of_mem hn
   have:=hall.out j hj (by omega)
   rw[this]at hnf;cases hnf

theorem rput_at (p b:Nat)(R:Row)(x:Int)(L:Option Addr)(l:List Int)(n c:Nat)(w:World)(hn:l.length=n)(h:RefAt w p b R)(hl:Vals w [p,b] L (l.map I))(hm:n≤140737488355328):
  Calls Tryz.prog 131 #[.pointer (some ⟨p,0,none⟩),.int .i64 x,.slice L n c] w fun e w'=>
   e= .returned (.bool (R.put x l).1)∧RefAt w' p b (R.put x l).2∧Kept [p,b] w w':=by
 subst hn
 by_cases hx:isW x=true
 ·have hx':x=1∨x=2∨x=4:=by simpa [isW,or_assoc]using hx
  obtain⟨x,rfl⟩:=Int.eq_ofNat_of_zero_le (show 0≤x by omega)
  by_cases hr:R.pos+x*l.length≤R.bs.length
  ·by_cases hf:∀ n∈l,fitsW x n=true
   ·have e:R.put x l=(true,⟨over R.bs R.pos (bytesOf x l),R.pos+x*l.length⟩):=if_pos ⟨hx,hf,hr⟩;rw[e];exact rput_ok p b R x L l c w h hx hl hf hr
   ·have e:R.put x l=(false,R):=if_neg (fun h=>hf h.2.1);rw[e];refine(rput_unfit p b R x L l c w h hx (hl.mono (by simp)) (by simpa using hf) hr).mono fun e w' ⟨h1,k,h2⟩=>⟨h1,by subst h2;exact h.drewN k,by subst h2;exact(Kept.refl _ w).drewN k⟩
  ·have e:R.put x l=(false,R):=if_neg (fun h=>hr h.2.2);rw[e];refine(rput_long p b R x L l c w h hx hm (by omega)).mono fun e w' ⟨h1,k,h2⟩=>⟨h1,by subst h2;exact h.drewN k,by subst h2;exact(Kept.refl _ w).drewN k⟩
 ·have e:R.put x l=(false,R):=if_neg (fun h=>hx h.1);rw[e]
  exact(rput_width p x L l.length c w ((Bool.not_eq_true _).mp hx)).mono fun e w' ⟨h1,k,h2⟩=>⟨h1,by subst h2;exact h.drewN k,by subst h2;exact(Kept.refl _ w).drewN k⟩

theorem rnew_ok (n:Int)(w:World)(h0:0≤n)(h1:n≤65536):
  Calls Tryz.prog 179 #[.int .i64 n] w fun e w'=>∃ p b,e= .returned (.pointer (some ⟨p,0,none⟩))∧w.heap.size≤p∧w.heap.size≤b∧RefAt w' p b ⟨List.replicate n.toNat 0,0⟩∧Kept [] w w':=by
 obtain⟨n,rfl⟩:=Int.eq_ofNat_of_zero_le h0;rw[Int.toNat_natCast];have hmk:=run_make_row' (P:=Tryz.prog) 41 5 (.int .u8 0) 1 (by kernel_rfl) (by kernel_rfl) rfl .i64 .i64 n (by omega) (by omega);go_enter Tryz.func179,Tryz.ntmps179;go_wp2_with (go_at_call 69;refine(within_yes _ _ _ _ ⟨by omega,by omega⟩).mono ?_;rintro e w' ⟨rfl,rfl⟩);go_ret;refine⟨_,_,rfl,by omega,Nat.le_refl w.heap.size,⟨?_,⟨_,Blk.alloc (Blk.new _ _ _) _,by rw[size_madeCells];simp,by simp,fun i x hx=> ?_⟩,Nat.zero_le _,by simp;omega⟩,((Kept.refl _ w).alloc _).alloc _⟩
 ·have:=Blk.new (w.alloc (.cells (madeCells #[.int .u8 0] n) 5)) 221 #[.slice (some ⟨w.heap.size,0,none⟩) n n,.int .i64 0]
  simpa using this
 ·rw[List.getElem?_replicate]at hx
  split at hx
  ·rename_i hi
   injection hx with hx;subst hx;exact made_B n i hi
  ·cases hx

theorem rfrom_ok (A:Option Addr)(n c:Nat)(bs:List UInt8)(w:World)(hl:bs.length=n)(hnc:n≤c)(hv:Vals w [] A (bs.map B))(hm:n≤65536):
  Calls Tryz.prog 144 #[.slice A n c] w fun e w'=>∃ p b,e= .returned (.pointer (some ⟨p,0,none⟩))∧w.heap.size≤p∧w.heap.size≤b∧RefAt w' p b ⟨bs,0⟩∧Kept [] w w':=by
 have HV:=hide hv;have HL:=hide hl;clear hv hl;go_enter Tryz.func144,Tryz.ntmps144;go_wp2_with fail;refine(part_any A n c 0 n bs _ HV.out HL.out hnc (by omega) (by omega) (by omega) (by omega)).mono ?_;rintro e w' ⟨g,rfl,hg,ha,hk⟩;rw[show((n:Int)-0).toNat=n by omega]at*;rw[show((bs.drop (0:Int).toNat).take n)=bs by rw[←HL.out];simp]at ha;go_wp2;go_ret;refine⟨_,g,rfl,hk.size,hg,⟨?_,?_,Nat.zero_le _,by rw[HL.out];exact hm⟩,hk.alloc _⟩
 ·rw[HL.out];exact Blk.new _ _ _
 ·rw[HL.out];exact ha.alloc _
end Go.Proofs.YtjkmahmoclobmaaGreat.ref
namespace Go.Proofs.YtjkmahmoclobmaaGreat.ref
open Go.RowKit mem row
set_option maxRecDepth 100000
theorem quiet_eq {P:Program}{f:FuncId}{args:Array Value}{w:World}{n:Nat}{v:Value}
  (h:Calls P f args (w.drewN n) fun e w'=>e= .returned v∧w.drewN n=w'):Calls P f args (w.drewN n) fun e w''=>e= .returned v∧∃ m,w''=w.drewN m:=
 h.mono fun _ _ ⟨he,hm⟩=>⟨he,n,hm.symm⟩

theorem numOf_down (bs:List UInt8)(pos x j:Nat)(hj:j<x)(h:pos+x≤bs.length):
  numOf (((bs.drop pos).take x).drop (x-(j+1)))=((bs[pos+(x-1-j)]'(by omega)).toNat:Int)+256*numOf (((bs.drop pos).take x).drop (x-j)):=by
 have hl:x-(j+1)<((bs.drop pos).take x).length:=by simp;omega
 rw[List.drop_eq_getElem_cons hl]
 have e:((bs.drop pos).take x)[x-(j+1)]=bs[pos+(x-1-j)]'(by omega):=by
  simp only[List.getElem_take,List.getElem_drop]
  congr 1
  omega
 rw[e,show x-(j+1)+1=x-j by omega]
 rfl

theorem pow3 (n:Nat)(h:n≤3):(256:Int)^n≤16777216:=by
 have h1:n=0∨n=1∨n=2∨n=3:=by omega
 rcases h1 with rfl|rfl|rfl|rfl<;>decide
theorem or_down (y:UInt8)(z:Int)(h:0≤z∧z<16777216):bits .or .i64 (wrap64 (z*256)) (y.toNat:Int)=(y.toNat:Int)+256*z:=by
 obtain⟨n,rfl⟩:=Int.eq_ofNat_of_zero_le h.1;have hy:=y.toNat_lt
 have e:wrap64 ((n:Int)*256)=((n*256:Nat):Int):=by
  unfold wrap64
  omega
 have e2:=or_far y.toNat n 8 hy (by omega)
 have e3:((n:Int)*((2^8:Nat):Int))=((n*256:Nat):Int):=by simp
 rw[e3,i64_or_nat _ _ (by omega) (by omega)]at e2;rw[e,i64_or_nat _ _ (by omega) (by omega),Nat.or_comm,e2]
 omega

theorem rget_width (p b:Nat)(R:Row)(x:Int)(w:World)(h:RefAt w p b R)(hx:isW x=false):
  Calls Tryz.prog 182 #[.pointer (some ⟨p,0,none⟩),.int .i64 x] w fun e w'=>e= .returned (.tuple #[.int .i64 0,.bool false])∧∃ k,w'=w.drewN k:=by
 have HX:=hide hx;have hc0:=h.c0;have hc1:=h.c1;clear hx h;go_enter Tryz.func182,Tryz.ntmps182;go_wp2
 go_quiet ((go_at_call 180;exact quiet_eq (most_no _ _ HX.out)))
 go_wp2;go_ret2;exact⟨rfl,_,rfl⟩

theorem rget_short (p b:Nat)(R:Row)(x:Int)(w:World)(h:RefAt w p b R)(hx:isW x=true)(hr:R.bs.length<R.pos+x):
  Calls Tryz.prog 182 #[.pointer (some ⟨p,0,none⟩),.int .i64 x] w fun e w'=>e= .returned (.tuple #[.int .i64 0,.bool false])∧∃ k,w'=w.drewN k:=by
 have HX:=hide hx;have hc0:=h.c0;have hc1:=h.c1;have hlen:=h.len_le;have hpl:=h.pos_le
 have d0:decide (mostOf x<0)=false:=decide_eq_false (by
  have hx':x=1∨x=2∨x=4:=by simpa [isW,or_assoc]using hx
  rcases hx' with rfl|rfl|rfl<;>decide)
 have g2:IntKind.i64.wrap ((R.bs.length:Int)-(R.pos:Int))=(R.bs.length:Int)-(R.pos:Int):=IntWalk.i64_in _ (by omega);have d1:decide ((R.bs.length:Int)-(R.pos:Int)<x)=true:=decide_eq_true (by omega);clear hx h;go_enter Tryz.func182,Tryz.ntmps182;go_wp2
 go_quiet ((go_at_call 180;exact quiet_eq (most_any _ _)))
 go_wp2;go_ret2;exact⟨rfl,_,rfl⟩


set_option maxRecDepth 100000 in
theorem rget_ok (p b:Nat)(R:Row)(x:Nat)(w:World)(h:RefAt w p b R)(hx:isW (x:Int)=true)(hr:R.pos+x≤R.bs.length):
  Calls Tryz.prog 182 #[.pointer (some ⟨p,0,none⟩),.int .i64 x] w fun e w'=>
   e= .returned (.tuple #[.int .i64 (numOf ((R.bs.drop R.pos).take x)),.bool true])∧RefAt w' p b ⟨R.bs,R.pos+x⟩∧Kept [p] w w':=by
 have HX:=hide hx
 have hx':x=1∨x=2∨x=4:=by
  have hx':(x:Int)=1∨(x:Int)=2∨(x:Int)=4:=by simpa [isW,or_assoc]using hx
  omega
 have hx4:x≤4:=by omega
 have hx0:0<x:=by omega
 have hc0:=h.c0;have hc1:=h.c1;have hf1:=h.f1;have hlen:=h.len_le;have hpl:=h.pos_le;have d0:decide (mostOf x<0)=false:=decide_eq_false (by rcases hx' with rfl|rfl|rfl<;>decide);have g2:IntKind.i64.wrap ((R.bs.length:Int)-(R.pos:Int))=(R.bs.length:Int)-(R.pos:Int):=IntWalk.i64_in _ (by omega);have d1:decide ((R.bs.length:Int)-(R.pos:Int)<(x:Int))=false:=decide_eq_false (by omega);have H:=hide h;clear hx h hx';go_enter Tryz.func182,Tryz.ntmps182;go_wp2
 go_quiet ((go_at_call 180;exact quiet_eq (most_any _ _)))
 go_wp2;have HR:=hide hr;clear d0 d1 g2 hr
 go_loopw [6,7] (fun v k wr=>∃ j:Nat,j≤x∧k= .int .i64 ((x:Int)-1-j)∧v= .int .i64 (numOf (((R.bs.drop R.pos).take x).drop (x-j)))∧∃ d,wr=w.drewN d) (fun v k wr=>(intOf k+1).toNat)
 case atStart=>exact⟨0,Nat.zero_le _,by go_num,by rw[List.drop_of_length_le (by simp;omega)];rfl,_,rfl⟩
 case round=>
  obtain⟨j,hj,rfl,rfl,d,rfl⟩:=hrel
  by_cases hlt:j<x
  ·have hpj:R.pos+(x-1-j)<R.bs.length:=by have:=HR.out;omega
   have hcb:=H.out.2.1.cell (i:=R.pos+(x-1-j)) hpj;have hstep:=hide (numOf_down (R.bs) R.pos x j hlt (by have:=HR.out;omega));have hzb:=numOf_bd (((R.bs.drop R.pos).take x).drop (x-j));generalize hy:R.bs[R.pos+(x-1-j)]'hpj=y at*;generalize hz:numOf (((R.bs.drop R.pos).take x).drop (x-j))=z at*;have HY:=hide hy;have HZ:=hide hz;clear hy hz;unfold B at hcb
   have hy256:(y.toNat:Int)<256:=by have:=y.toNat_lt;omega
   have g0:(0:Int)≤(R.pos:Int)+((x:Int)-1-j):=by omega
   have g1:((R.pos:Int)+((x:Int)-1-j)).toNat=R.pos+(x-1-j):=by omega
   have g2:(R.pos:Int)+((x:Int)-1-j)<R.bs.length:=by omega
   have g3:IntKind.i64.wrap ((R.pos:Int)+((x:Int)-1-j))=(R.pos:Int)+((x:Int)-1-j):=IntWalk.i64_in _ (by omega);have hzb3:Hid (0≤z∧z<16777216):=hide ⟨hzb.1,Int.lt_of_lt_of_le hzb.2 (pow3 _ (by simp;omega))⟩;clear hzb;go_wp2
   go_quiet (fail)
   go_wp2;go_roundw
   case rel=>exact⟨j+1,by omega,by go_num,by rw[hstep.out];exact congrArg (fun q=>Value.int .i64 q) (or_down y z hzb3.out),_,rfl⟩
   case measure=>simp [intOf];omega
  ·obtain rfl:j=x:=by omega
   go_wp2;go_ret2;rw[Nat.sub_self,List.drop_zero];exact⟨rfl,(H.out.moved j (by have:=HR.out;omega) _ (by omega)).drewN _,((Kept.refl _ w).set_ (.inl (by simp)) _ _).drewN _⟩
end Go.Proofs.YtjkmahmoclobmaaGreat.ref
namespace Go.Proofs.YtjkmahmoclobmaaGreat.ref
open Go.RowKit mem row
set_option maxRecDepth 100000
theorem rget_at (p b:Nat)(R:Row)(x:Int)(w:World)(h:RefAt w p b R):
  Calls Tryz.prog 182 #[.pointer (some ⟨p,0,none⟩),.int .i64 x] w fun e w'=>
   e= .returned (.tuple #[.int .i64 (R.get x).1,.bool (R.get x).2.1])∧RefAt w' p b (R.get x).2.2∧Kept [p] w w':=by
 by_cases hx:isW x=true
 ·have hx':x=1∨x=2∨x=4:=by simpa [isW,or_assoc]using hx
  obtain⟨x,rfl⟩:=Int.eq_ofNat_of_zero_le (show 0≤x by omega)
  by_cases hr:R.pos+x≤R.bs.length
  ·have e:R.get x=(numOf ((R.bs.drop R.pos).take x),true,⟨R.bs,R.pos+x⟩):=if_pos ⟨hx,hr⟩;rw[e];exact rget_ok p b R x w h hx hr
  ·have e:R.get x=(0,false,R):=if_neg (fun h=>hr h.2);rw[e]
   exact(rget_short p b R x w h hx (by omega)).mono fun e w' ⟨h1,k,h2⟩=>⟨h1,by subst h2;exact h.drewN k,by subst h2;exact(Kept.refl _ w).drewN k⟩
 ·have e:R.get x=(0,false,R):=if_neg (fun h=>hx h.1);rw[e]
  exact(rget_width p b R x w h ((Bool.not_eq_true _).mp hx)).mono fun e w' ⟨h1,k,h2⟩=>⟨h1,by subst h2;exact h.drewN k,by subst h2;exact(Kept.refl _ w).drewN k⟩

theorem rlay_no (p b:Nat)(R:Row)(L:Option Addr)(n c:Nat)(w:World)(h:RefAt w p b R)(hr:R.bs.length<R.pos+n):
  Calls Tryz.prog 136 #[.pointer (some ⟨p,0,none⟩),.slice L n c] w fun e w'=>e= .returned (.bool false)∧∃ k,w'=w.drewN k:=by
 have hc0:=h.c0;have hc1:=h.c1;have hlen:=h.len_le;have hpl:=h.pos_le;have g2:IntKind.i64.wrap ((R.bs.length:Int)-(R.pos:Int))=(R.bs.length:Int)-(R.pos:Int):=IntWalk.i64_in _ (by omega);have d1:decide ((R.bs.length:Int)-(R.pos:Int)<(n:Int))=true:=decide_eq_true (by omega);clear h;go_enter Tryz.func136,Tryz.ntmps136;go_wp2
 go_quiet (fail)
 go_wp2;go_ret;exact⟨rfl,_,rfl⟩

theorem lay_arr {w:World}{b n:Nat}{bs:List UInt8}(h:bs.length=n)(ha:Arr w b n bs):Arr w b bs.length bs:=by rw[h];exact ha

theorem rlay_ok (p b:Nat)(R:Row)(L:Option Addr)(xs:List UInt8)(n c:Nat)(w:World)(hn:xs.length=n)(h:RefAt w p b R)(hl:Vals w [p,b] L (xs.map B))(hr:R.pos+n≤R.bs.length):
  Calls Tryz.prog 136 #[.pointer (some ⟨p,0,none⟩),.slice L n c] w fun e w'=>
   e= .returned (.bool true)∧RefAt w' p b ⟨over R.bs R.pos xs,R.pos+n⟩∧Kept [p,b] w w':=by
 have hc0:=h.c0;have hc1:=h.c1;have hlen:=h.len_le;have hpl:=h.pos_le;have g2:IntKind.i64.wrap ((R.bs.length:Int)-(R.pos:Int))=(R.bs.length:Int)-(R.pos:Int):=IntWalk.i64_in _ (by omega);have d1:decide ((R.bs.length:Int)-(R.pos:Int)<(n:Int))=false:=decide_eq_false (by omega);have H:=hide h;have HL:=hide hl;have HN:=hide hn;clear h hl hn;go_enter Tryz.func136,Tryz.ntmps136;go_wp2
 go_quiet (fail)
 go_wp2;clear d1 g2;have H1:=hide (H.out.drewN nq);have K1:Hid (Kept [p,b] w (w.drewN nq)):=hide ((Kept.refl _ w).drewN nq);have KS:Hid (w.heap.size≤(w.drewN nq).heap.size):=hide (Nat.le_refl _);generalize w.drewN nq=w1 at*;clear hc0 hc1;have hc0:=H1.out.c0;have hc1:=H1.out.c1;have hf1:=H1.out.f1
 go_still_tail 10,(by kernel_rfl)
 change wpList _ _ _ _ _ (World.drew w1);refine wpList_copy_bytes rfl (.tmp 26) (.tmp 27) 41 41 rfl Tryz.underlying41 size8 (if R.bs.length=R.pos then some ⟨b,0,none⟩else some ⟨b,R.pos,none⟩) L (R.bs.length-R.pos) (R.bs.length-R.pos) n c rfl rfl xs (by rw[HN.out];exact(Nat.min_eq_left (by omega)).symm) [p,b] ((HL.out.kept K1.out (fun _ h=>h)).kept ((Kept.refl [] w1).drew) (by simp)) b R.pos R.bs.length R.bs (fun hx=>⟨if_neg (by have:=HN.out;omega),H1.out.2.1,by rw[HN.out];omega⟩) ?_;intro w2 hk2 ha2 _;have hne:=H1.out.ne_;have hb2:Blk w2 p 221 #[.slice (some ⟨b,0,none⟩) R.bs.length R.bs.length,.int .i64 R.pos]:=hk2.blk (w:=w2) (show Blk w1.drew p _ _ from H1.out.1) (by simpa using Ne.symm hne);have HA2:=hide (ha2 H1.out.2.1);have HK2:Hid (Kept [p,b] w w2):=hide ((K1.out.drew).trans hk2 (by simp));have HB2:=hide hb2;have HNE:=hide hne;clear hc0 hc1 hf1 hk2 ha2 hne hb2;have hc1:w2.cell? ⟨p,1,none⟩=some (.int .i64 R.pos):=HB2.out.cell 1;have hf1:=HB2.out.frozen 1;have hol:(over R.bs R.pos xs).length=R.bs.length:=over_length _ _ _ (by rw[HN.out];omega);have HOL:=hide hol;clear hol;go_wp2
 all_goals go_ret
 all_goals have hol:=HOL.out
 all_goals refine⟨rfl,⟨?_,?_,by rw[hol];exact hr,by rw[hol];exact hlen⟩,(HK2.out.set_ (.inl (by simp)) _ _)⟩
 any_goals exact lay_arr hol (HA2.out.far_ HNE.out _ _)
 all_goals
  show Blk _ _ _ #[.slice (some ⟨b,0,none⟩) (over R.bs R.pos xs).length (over R.bs R.pos xs).length,.int .i64 ((R.pos+n:Nat):Int)];rw[hol]
  simpa using HB2.out.set_ 1 (.int .i64 ((R.pos:Int)+n))

theorem rtake_ok (p b:Nat)(R:Row)(n:Int)(w:World)(h:RefAt w p b R)(h0:0≤n)(hr:R.pos+n≤R.bs.length):
  Calls Tryz.prog 183 #[.pointer (some ⟨p,0,none⟩),.int .i64 n] w fun e w'=>
   ∃ g,e= .returned (.tuple #[.slice (some ⟨g,0,none⟩) n.toNat n.toNat,.bool true])∧w.heap.size≤g∧Arr w' g n.toNat ((R.bs.drop R.pos).take n.toNat)∧RefAt w' p b ⟨R.bs,R.pos+n.toNat⟩∧Kept [p] w w':=by
 have hc0:=h.c0;have hc1:=h.c1;have hlen:=h.len_le;have hpl:=h.pos_le;have g2:IntKind.i64.wrap ((R.bs.length:Int)-(R.pos:Int))=(R.bs.length:Int)-(R.pos:Int):=IntWalk.i64_in _ (by omega);have d0:decide (n<0)=false:=decide_eq_false (by omega);have d1:decide ((R.bs.length:Int)-(R.pos:Int)<n)=false:=decide_eq_false (by omega);have H:=hide h;clear h;go_enter Tryz.func183,Tryz.ntmps183;go_wp2
 go_quiet (fail)
 go_wp2;have H1:=hide (H.out.drewN nq);have K1:Hid (Kept [p] w (w.drewN nq)):=hide ((Kept.refl _ w).drewN nq);have KS:Hid (w.heap.size≤(w.drewN nq).heap.size):=hide (Nat.le_refl _);generalize w.drewN nq=w1 at*;clear hc0 hc1;have hc0:=H1.out.c0;have hc1:=H1.out.c1;have hf1:=H1.out.f1;have g3:IntKind.i64.wrap ((R.pos:Int)+n)=(R.pos:Int)+n:=IntWalk.i64_in _ (by omega)
 go_still_tail 14,(by kernel_rfl)
 change wpList _ _ _ _ _ (World.drew w1);obtain⟨m,rfl⟩:=Int.eq_ofNat_of_zero_le h0;have HV1:Hid (Vals w1.drew [] (some ⟨b,0,none⟩) (R.bs.map B)):=hide ((H1.out.drew).vals (by simp));go_wp2_with fail;refine(part_any _ R.bs.length R.bs.length _ _ R.bs _ HV1.out rfl (Nat.le_refl _) (by omega) (by omega) hr (by omega)).mono ?_;rintro e w2 ⟨g,rfl,hg,ha,hk⟩;rw[show((R.pos:Int)+(m:Int)-R.pos).toNat=m by omega,Int.toNat_natCast]at*;have H2:=hide ((H1.out.drew).kept hk (by simp) (by simp));have HA:=hide ha;have K2:Hid (Kept [p] w w2):=hide ((K1.out.drew).trans hk (by simp));have hgp:Hid (p≠g):=hide (by have:=H1.out.lt;have h2:w1.heap.size≤g:=hg;omega);have hg0:Hid (w.heap.size≤g):=hide (Nat.le_trans KS.out hg);clear hc0 hc1 hf1 ha hk g2 g3 d0 d1;have hc1:=H2.out.c1;have hf1:=H2.out.f1;go_wp2;go_ret2;rw[Int.toNat_natCast];exact⟨g,rfl,hg0.out,HA.out.far_ (Ne.symm hgp.out) _ _,H2.out.moved m (by omega) _ (by omega),K2.out.set_ (.inl (by simp)) _ _⟩

theorem rlay_at (p b:Nat)(R:Row)(L:Option Addr)(xs:List UInt8)(n c:Nat)(w:World)(hn:xs.length=n)(h:RefAt w p b R)(hl:Vals w [p,b] L (xs.map B)):
  Calls Tryz.prog 136 #[.pointer (some ⟨p,0,none⟩),.slice L n c] w fun e w'=>
   e= .returned (.bool (R.lay xs).1)∧RefAt w' p b (R.lay xs).2∧Kept [p,b] w w':=by
 by_cases hr:R.pos+xs.length≤R.bs.length
 ·have e:R.lay xs=(true,⟨over R.bs R.pos xs,R.pos+xs.length⟩):=if_pos hr;rw[e,hn];exact rlay_ok p b R L xs n c w hn h hl (by omega)
 ·have e:R.lay xs=(false,R):=if_neg hr;rw[e]
  exact(rlay_no p b R L n c w h (by omega)).mono fun e w' ⟨h1,k,h2⟩=>⟨h1,by subst h2;exact h.drewN k,by subst h2;exact(Kept.refl _ w).drewN k⟩

end Go.Proofs.YtjkmahmoclobmaaGreat.ref
namespace Go.Proofs.YtjkmahmoclobmaaGreat.ref
open Go.RowKit mem row
set_option maxRecDepth 100000
theorem rone_any (p g:Nat)(R R':Row)(x y:Int)(w:World)(h:RefAt w p g R)(hR:(R.put x [y]).2=R'):
  Calls Tryz.prog 130 #[.pointer (some ⟨p,0,none⟩),.int .i64 x,.int .i64 y] w fun e w'=>e= .returned (.tuple #[])∧RefAt w' p g R'∧Kept [p,g] w w':=by
 have hp1:=h.lt;have hg1:=h.blt;have HR:=hide h;have HE:=hide hR;clear h hR;go_enter Tryz.func130,Tryz.ntmps130;go_wp2_with fail;refine(rput_at p g R x (some ⟨w.heap.size,0,none⟩) [y] 1 1 _ rfl (HR.out.kept (S:=[]) ((Kept.refl _ w).alloc _) (by simp) (by simp)) (Vals.lit w [p,g] _ _ _ ([y].map I) rfl (by simp;omega)) (by omega)).mono ?_;rintro e w2 ⟨rfl,hr,hk⟩;rw[HE.out]at hr;have HR2:=hide hr;have HK2:=hide (((Kept.refl [p,g] w).alloc _).trans hk (fun i hi=> .inl hi));clear hr hk;go_wp2
 go_end0
 exact⟨rfl,HR2.out,HK2.out⟩

theorem rnum_any (p g:Nat)(R R':Row)(x y:Int)(w:World)(h:RefAt w p g R)(hR:(R.get x).2.2=R')(hy:(R.get x).1=y):
  Calls Tryz.prog 145 #[.pointer (some ⟨p,0,none⟩),.int .i64 x] w fun e w'=>e= .returned (.int .i64 y)∧RefAt w' p g R'∧Kept [p] w w':=by
 have H:=hide h;have HY:=hide hy;have HRR:=hide hR;clear h hy hR;go_enter Tryz.func145,Tryz.ntmps145;go_wp2_with fail;refine(ref.rget_at p g R x _ H.out).mono ?_;rintro e w1 ⟨rfl,hr,hk⟩;rw[HRR.out]at hr;rw[HY.out];have HR:=hide hr;have HK:=hide hk;clear hr hk;go_wp2;go_ret;exact⟨rfl,HR.out,HK.out⟩
end Go.Proofs.YtjkmahmoclobmaaGreat.ref
