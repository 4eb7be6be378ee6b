import Derived.Test.YtjkmahmoclobmaaGreatRows
import Derived.Test.YtjkmahmoclobmaaGreatYMem
import Derived.WalkKit
import Derived.RegionTactic
import Derived.ChangeAlike
import Derived.Deep.QuietTactic
import Derived.BigQuiet
import Derived.WalkLawsBesides
import Derived.WalkSpells
import Derived.Deep.OwnRows
import Derived.StillTailTactics
import Derived.IntWalk
import Derived.Test.YtjkmahmoclobmaaGreatYMemOps
set_option maxRecDepth 100000
set_option maxHeartbeats 1000000
namespace Go.Proofs.YtjkmahmoclobmaaGreat.row
open Go.RowKit mem
def isW (x:Int):Bool:=x==1 || x==2 || x==4

theorem isWidth_any (x:Int)(w:World):
  Calls Tryz.prog 222 #[.int .i64 x] w fun e w'=>e= .returned (.bool (isW x))∧w=w':=by
 by_cases h1:x=1
 ·subst h1;go_enter Tryz.func222,Tryz.ntmps222;go_wp2;go_ret;exact⟨rfl,rfl⟩
 by_cases h2:x=2
 ·subst h2;go_enter Tryz.func222,Tryz.ntmps222;go_wp2;go_ret;exact⟨rfl,rfl⟩
 ·have e1:(x==1)=false:=beq_eq_false_iff_ne.2 h1;have e2:(x==2)=false:=beq_eq_false_iff_ne.2 h2;go_enter Tryz.func222,Tryz.ntmps222;go_wp2;go_ret;exact⟨by simp [isW,e1,e2],rfl⟩

theorem isWidth_yes (x:Int)(w:World)(h:isW x=true):Calls Tryz.prog 222 #[.int .i64 x] w fun e w'=>e= .returned (.bool true)∧w=w':=
 (isWidth_any x w).mono fun e w' ⟨he,hw⟩=>⟨by rw[he,h],hw⟩
theorem isWidth_no (x:Int)(w:World)(h:isW x=false):Calls Tryz.prog 222 #[.int .i64 x] w fun e w'=>e= .returned (.bool false)∧w=w':=
 (isWidth_any x w).mono fun e w' ⟨he,hw⟩=>⟨by rw[he,h],hw⟩
theorem left_any (p:Nat)(a:Option Addr)(len cap:Nat)(pl:Int)(w:World)
  (h0:w.cell? ⟨p,0,none⟩=some (.slice a len cap)) (h1:w.cell? ⟨p,1,none⟩=some (.int .i64 pl)) (hp:0≤pl) (hl:pl≤len) (hm:len≤65536):
  Calls Tryz.prog 237 #[.pointer (some ⟨p,0,none⟩)] w fun e w'=>e= .returned (.int .i64 (len-pl))∧∃ n,w'=w.drewN n:=by
 go_enter Tryz.func237,Tryz.ntmps237;go_wp2
 go_quiet (fail)
 go_wp2;go_ret;exact⟨rfl,_,rfl⟩
theorem ret_cut {A:Option Addr}{n n' c c':Nat}{t:Bool}(h:n=n')(k:c=c'):Ending.returned (.tuple #[.slice A n c,.bool t])=Ending.returned (.tuple #[.slice A n' c',.bool t]):=by rw[h,k]

theorem next_ok (p b:Nat)(A:Option Addr)(len cap:Nat)(pl n:Int)(w:World)
  (h0:w.cell? ⟨p,0,none⟩=some (.slice A len cap)) (h1:w.cell? ⟨p,1,none⟩=some (.int .i64 pl)) (hf:w.frozen? ⟨p,1,none⟩=false) (hp:0≤pl) (hl:pl≤len) (hm:len≤65536) (hlc:len≤cap)
  (hA:A=some ⟨b,0,none⟩∨A=none∧cap=0) (hn0:0≤n) (hn:n≤len-pl):
  Calls Tryz.prog 221 #[.pointer (some ⟨p,0,none⟩),.int .i64 n] w fun e w'=>
   ∃ A',e= .returned (.tuple #[.slice A' n.toNat (cap-pl.toNat),.bool true])∧(0<n→A'=some ⟨b,pl.toNat,none⟩)∧(A'=none→cap=0)∧∃ k,w'=(w.drewN k).setCell ⟨p,1,none⟩ (.int .i64 (pl+n)):=by
 have HQ:Hid ((pl+n).toNat-pl.toNat=n.toNat):=hide (by omega)
 rcases hA with rfl|⟨rfl,rfl⟩
 ·by_cases hc:cap=pl.toNat
  ·have hn':Hid (¬0<n):=hide (by omega);go_enter Tryz.func221,Tryz.ntmps221;go_wp2_with (go_at_call 237;refine(left_any _ _ _ _ _ _ h0 h1 hp hl hm).mono ?_;rintro e w' ⟨rfl,k,rfl⟩)
   go_quiet (fail)
   go_wp2;go_ret2;exact⟨_,ret_cut HQ.out (by omega),fun h=>absurd h (by have:=hn'.out;omega),(by first|trivial|(intro h;first|rfl|(cases h))),_,rfl⟩
  ·go_enter Tryz.func221,Tryz.ntmps221;go_wp2_with (go_at_call 237;refine(left_any _ _ _ _ _ _ h0 h1 hp hl hm).mono ?_;rintro e w' ⟨rfl,k,rfl⟩)
   go_quiet (fail)
   go_wp2;go_ret2;exact⟨_,ret_cut HQ.out rfl,fun _=>rfl,(by first|trivial|(intro h;cases h)),_,rfl⟩
 ·have hn':Hid (¬0<n):=hide (by omega);go_enter Tryz.func221,Tryz.ntmps221;go_wp2_with (go_at_call 237;refine(left_any _ _ _ _ _ _ h0 h1 hp hl hm).mono ?_;rintro e w' ⟨rfl,k,rfl⟩)
  go_quiet (fail)
  go_wp2;go_ret2;exact⟨_,ret_cut HQ.out (by omega),fun h=>absurd h (by have:=hn'.out;omega),(by first|trivial|(intro h;first|rfl|(cases h))),_,rfl⟩

theorem next_no (p:Nat)(A:Option Addr)(len cap:Nat)(pl n:Int)(w:World)
  (h0:w.cell? ⟨p,0,none⟩=some (.slice A len cap)) (h1:w.cell? ⟨p,1,none⟩=some (.int .i64 pl)) (hp:0≤pl) (hl:pl≤len) (hm:len≤65536) (hn:n<0∨len-pl<n):
  Calls Tryz.prog 221 #[.pointer (some ⟨p,0,none⟩),.int .i64 n] w fun e w'=>
   e= .returned (.tuple #[.slice none 0 0,.bool false])∧∃ k,w'=w.drewN k:=by
 by_cases hn0:n<0
 ·go_enter Tryz.func221,Tryz.ntmps221;go_wp2;go_ret2;exact⟨rfl,0,rfl⟩
 ·have hn1:len-pl<n:=by omega
  clear hn;go_enter Tryz.func221,Tryz.ntmps221;go_wp2_with (go_at_call 237;refine(left_any _ _ _ _ _ _ h0 h1 hp hl hm).mono ?_;rintro e w' ⟨rfl,k,rfl⟩);go_ret2;exact⟨rfl,_,rfl⟩
def fitsW (x n:Int):Bool:=decide (0≤n∧n<256^x.toNat)

theorem holds_any (x n:Int)(w:World)(hx:isW x=true):
  Calls Tryz.prog 223 #[.int .i64 x,.int .i64 n] w fun e w'=>e= .returned (.bool (fitsW x n))∧w=w':=by
 have hx':x=1∨x=2∨x=4:=by simpa [isW,or_assoc]using hx
 clear hx
 rcases hx' with rfl|rfl|rfl
 ·have e:(n/256==0)=fitsW 1 n:=by
   unfold fitsW;rw[Bool.eq_iff_iff,beq_iff_eq,decide_eq_true_iff,show(256:Int)^(1:Int).toNat=256 from rfl];omega
  have E:=hide e;clear e;go_enter Tryz.func223,Tryz.ntmps223;go_wp2;go_ret;exact⟨by rw[←E.out];rfl,rfl⟩
 ·have e:(n/65536==0)=fitsW 2 n:=by
   unfold fitsW;rw[Bool.eq_iff_iff,beq_iff_eq,decide_eq_true_iff,show(256:Int)^(2:Int).toNat=65536 from rfl];omega
  have E:=hide e;clear e;go_enter Tryz.func223,Tryz.ntmps223;go_wp2;go_ret;exact⟨by rw[←E.out];rfl,rfl⟩
 ·have e:(n/4294967296==0)=fitsW 4 n:=by
   unfold fitsW;rw[Bool.eq_iff_iff,beq_iff_eq,decide_eq_true_iff,show(256:Int)^(4:Int).toNat=4294967296 from rfl];omega
  have E:=hide e;clear e;go_enter Tryz.func223,Tryz.ntmps223;go_wp2;go_ret;exact⟨by rw[←E.out];rfl,rfl⟩

theorem holds_yes (x n:Int)(w:World)(hx:isW x=true)(h:fitsW x n=true):Calls Tryz.prog 223 #[.int .i64 x,.int .i64 n] w fun e w'=>e= .returned (.bool true)∧w=w':=
 (holds_any x n w hx).mono fun e w' ⟨he,hw⟩=>⟨by rw[he,h],hw⟩
theorem holds_no (x n:Int)(w:World)(hx:isW x=true)(h:fitsW x n=false):Calls Tryz.prog 223 #[.int .i64 x,.int .i64 n] w fun e w'=>e= .returned (.bool false)∧w=w':=
 (holds_any x n w hx).mono fun e w' ⟨he,hw⟩=>⟨by rw[he,h],hw⟩

theorem new_ok (n:Int)(w:World)(h0:0≤n)(h1:n≤65536):
  Calls Tryz.prog 200 #[.int .i64 n] w fun e w'=>
   e= .returned (.pointer (some ⟨w.heap.size+1,0,none⟩))∧w'=(w.alloc (.cells (madeCells #[.int .u8 0] n.toNat) 5)).alloc (.cells #[.slice (some ⟨w.heap.size,0,none⟩) n.toNat n.toNat,.int .i64 0] 294):=by
 obtain⟨n,rfl⟩:=Int.eq_ofNat_of_zero_le h0;rw[Int.toNat_natCast];have hmk:=run_make_row' (P:=Tryz.prog) 41 5 (.int .u8 0) 1 (by kernel_rfl) (by kernel_rfl) rfl .i64 .i64 n (by omega) (by omega);go_enter Tryz.func200,Tryz.ntmps200;go_wp2;go_ret;exact⟨rfl,rfl⟩

end Go.Proofs.YtjkmahmoclobmaaGreat.row
namespace Go.Proofs.YtjkmahmoclobmaaGreat.row
open Go.RowKit mem
structure Row where
 bs:List UInt8
 pos:Nat

theorem Row.same {a b:Row}(h:a.bs=b.bs∧a.pos=b.pos):a=b:=by
 cases a;cases b;simp only at h;rw[h.1,h.2]
instance:DecidableEq Row:=fun a b=>decidable_of_iff (a.bs=b.bs∧a.pos=b.pos) ⟨Row.same,fun h=>by subst h;exact⟨rfl,rfl⟩⟩
def RowAt (w:World)(p b cap:Nat)(A:Option Addr)(R:Row):Prop:=
 Blk w p 294 #[.slice A R.bs.length cap,.int .i64 R.pos]∧(R.bs≠[]→Arr w b cap R.bs)∧R.bs.length≤cap∧R.pos≤R.bs.length∧R.bs.length≤65536∧(A=some ⟨b,0,none⟩∨A=none∧cap=0)
def byteOf (x:Nat)(l:List Int)(i:Nat):UInt8:=UInt8.ofNat ((l.getD (i/x) 0/256^(i%x))%256).toNat
def bytesOf (x:Nat)(l:List Int):List UInt8:=(List.range (x*l.length)).map (byteOf x l)

theorem byteOf_val (x:Nat)(l:List Int)(i:Nat)(z q:Int)(hz:z=l.getD (i/x) 0)(hq:q=z/256^(i%x)):Value.int .u8 (q%256)=B (byteOf x l i):=by
 have h:q%256=(((byteOf x l i).toNat:Nat):Int):=by
  unfold byteOf;rw[←hz,←hq,UInt8.toNat_ofNat']
  omega
 rw[h]
 rfl
theorem bytesOf_take (x:Nat)(l:List Int)(j:Nat)(hj:j<x*l.length):(bytesOf x l).take (j+1)=(bytesOf x l).take j++[byteOf x l j]:=by
 rw[List.take_succ_eq_append_getElem (by simpa [bytesOf]using hj)]
 simp [bytesOf]
theorem getI (l:List Int)(i:Nat)(h:i<l.length):(l.map I)[i]? = some (I (l.getD i 0)):=by simp [h]
theorem bytesOf_length (x:Nat)(l:List Int):(bytesOf x l).length=x*l.length:=by simp [bytesOf]

theorem put_ok1 (p b cap:Nat)(A:Option Addr)(R:Row)(L:Option Addr)(l:List Int)(c:Nat)(w:World)(h:RowAt w p b cap A R)(hl:Vals w [p,b] L (l.map I))(hf:∀ n∈l,fitsW 1 n=true)
  (hr:R.pos+l.length≤R.bs.length):
  Calls Tryz.prog 202 #[.pointer (some ⟨p,0,none⟩),.int .i64 1,.slice L l.length c] w fun e w'=>
   e= .returned (.bool true)∧RowAt w' p b cap A ⟨over R.bs R.pos (bytesOf 1 l),R.pos+l.length⟩∧Kept [p,b] w w':=by
 obtain⟨hb,ha,hap,hp,hz,hA⟩:=h;have hpb:R.bs≠[]→b≠p:=fun hn=>(ha hn).ne_ hb (by decide)
 have hlen:l.length≤65536:=by omega
 have HP:=hide hpb;clear hpb;have HA0:=hide ha;clear ha;have hc0:w.cell? ⟨p,0,none⟩=some (.slice A R.bs.length cap):=hb.cell 0;have hc1:w.cell? ⟨p,1,none⟩=some (.int .i64 R.pos):=hb.cell 1;have hcf:=hb.frozen 1;go_enter Tryz.func202,Tryz.ntmps202;go_wp2_with (go_at_call 222;refine(isWidth_yes _ _ rfl).mono ?_;rintro e w' ⟨rfl,rfl⟩)
 go_loop [17,8] (fun i u=>∃ k:Nat,k≤l.length∧i= .int .i64 k) (fun i u=>l.length-(intOf i).toNat)
 case atStart=>exact⟨0,Nat.zero_le _,rfl⟩
 case round=>
  obtain⟨k,hk,rfl⟩:=hrel
  by_cases hlt:k<l.length
  ·obtain⟨ad,rfl,hn,hc⟩:=hl k (I l[k]) (by simp [hlt]);have hfk:=hide (hf l[k] (List.getElem_mem hlt));unfold I at hc;go_wp2_with (go_at_call 223;refine(holds_yes _ _ _ rfl hfk.out).mono ?_;rintro e w' ⟨rfl,rfl⟩)
   go_round
   case rel=>exact⟨k+1,by omega,by go_num⟩
   case measure=>simp [intOf];omega
  ·obtain rfl:k=l.length:=by omega
   go_wp2_with (go_at_call 221;refine(next_ok p b A R.bs.length cap R.pos _ _ hc0 hc1 hcf (by omega) (by omega) (by omega) (by omega) hA (by omega) (by omega)).mono ?_;rintro e w' ⟨A',rfl,hA',hAn,k,rfl⟩;rw[Int.toNat_natCast]at *);generalize hw1:(w.drewN k).setCell ⟨p,1,none⟩ (Value.int IntKind.i64 (↑R.pos+↑l.length))=w1
   have HK1:Hid (Kept [p,b] w w1):=by subst hw1;exact((Kept.refl _ w).drewN k).setCell (.inl (by simp)) _
   have HB1:Hid (Blk w1 p 294 #[.slice A R.bs.length cap,.int .i64 (R.pos+l.length)]):=by subst hw1;exact((hb.drewN k).set_ 1 _)
   have HA1:Hid (R.bs≠[]→Arr w1 b cap R.bs):=by subst hw1;exact fun hn=>((HA0.out hn).drewN k).far (HP.out hn) _
   clear hw1 hc0 hc1 hcf hb HA0;have HL:=hide hl;clear hl
   go_loopw [37] (fun i wr=>∃ j:Nat,j≤l.length∧i= .int .i64 j∧Kept [p,b] w wr∧Blk wr p 294 #[.slice A R.bs.length cap,.int .i64 (R.pos+l.length)]∧(R.bs≠[]→Arr wr b cap (over R.bs R.pos ((bytesOf 1 l).take j)))) (fun i wr=>l.length-(intOf i).toNat)
   case atStart=>exact⟨0,Nat.zero_le _,rfl,HK1.out,HB1.out,fun hn=>by simpa [over_nil]using HA1.out hn⟩
   case round=>
    obtain⟨j,hj,rfl,hk,hb,ha⟩:=hrel
    by_cases hlt:j<l.length
    ·have hjl:j<l.length:=by omega
     obtain⟨ad,rfl,hn,hc⟩:=(HL.out.kept hk (fun _ h=>h)) (j) (I (l.getD (j) 0)) (getI _ _ hjl);obtain rfl:=hA' (by omega);have Hne:Hid (R.bs≠[]):=hide (fun e=>by have h0:=congrArg List.length e;simp only[List.length_nil]at h0;omega)
     replace ha:=ha Hne.out
     obtain⟨z,hz⟩:∃ z,z=l.getD (j) 0:=⟨_,rfl⟩;rw[←hz]at hc;unfold I at hc;have Hz:=hide hz;clear hz;obtain⟨v0,hv0⟩:=ha.any (i:=R.pos+j) (by omega);have hvf:=ha.frozen (R.pos+j);have HA:=hide ha;have HB:=hide hb;clear ha hb;have g1:IntKind.i64.wrap ((j:Int))=(j:Int):=IntWalk.i64_in _ (by omega)
     have hw0:IntKind.i64.wrap 0=0:=by decide
     have hw8:IntKind.i64.wrap 8=8:=by decide
     obtain hr:=(show(j:Int).tmod 1=0 by rw[Int.tmod_eq_emod_of_nonneg (by omega)];omega)
     all_goals
      go_wp2
      go_still_tail 15,(by kernel_rfl)
      change wpList _ _ _ _ _ (World.drew wr);go_wp2;go_roundw
      case rel=>
       have HR:=hide hr;clear hr;refine⟨j+1,by omega,by go_num,(hk.set_ (.inl (by simp)) _ _).drew,(HB.out.far_ (Ne.symm (HP.out Hne.out)) _ _).drew,fun _=> ?_⟩;rw[bytesOf_take 1 l j (by omega),←over_snoc _ _ _ _ (by simp [bytesOf_length];omega),show R.pos+((bytesOf 1 l).take j).length=R.pos+j by simp [bytesOf_length];omega];have e:=HR.out;rw[byteOf_val 1 l j z _ (by rw[Nat.div_one];exact Hz.out) (by rw[show j%1=((j:Int).tmod 1).toNat by rw[Int.tmod_eq_emod_of_nonneg (by omega)];omega,e];simp)]
       exact(HA.out.set_ _).drew
      case measure=>simp [intOf];omega
    ·obtain rfl:j=l.length:=by omega
     go_wp2;go_ret;rw[List.take_of_length_le (by rw[bytesOf_length];omega)]at ha;have hol:(over R.bs R.pos (bytesOf 1 l)).length=R.bs.length:=over_length _ _ _ (by rw[bytesOf_length];omega);refine⟨rfl,⟨?_,fun hn=>ha (fun e=>hn (List.eq_nil_of_length_eq_zero (by rw[hol,e];rfl))),?_,?_,?_,hA⟩,hk⟩
     ·show Blk _ _ _ #[.slice A (over R.bs R.pos (bytesOf 1 l)).length cap,.int .i64 ((R.pos+l.length:Nat):Int)];rw[hol,show((R.pos+l.length:Nat):Int)=(R.pos:Int)+(l.length:Int)by omega];exact hb
     ·show(over R.bs R.pos (bytesOf _ l)).length≤cap
      omega
     ·show R.pos+l.length≤(over R.bs R.pos (bytesOf 1 l)).length
      omega
     ·show(over R.bs R.pos (bytesOf 1 l)).length≤65536
      omega
theorem put_ok2 (p b cap:Nat)(A:Option Addr)(R:Row)(L:Option Addr)(l:List Int)(c:Nat)(w:World)(h:RowAt w p b cap A R)(hl:Vals w [p,b] L (l.map I))(hf:∀ n∈l,fitsW 2 n=true)
  (hr:R.pos+2*l.length≤R.bs.length):
  Calls Tryz.prog 202 #[.pointer (some ⟨p,0,none⟩),.int .i64 2,.slice L l.length c] w fun e w'=>
   e= .returned (.bool true)∧RowAt w' p b cap A ⟨over R.bs R.pos (bytesOf 2 l),R.pos+2*l.length⟩∧Kept [p,b] w w':=by
 obtain⟨hb,ha,hap,hp,hz,hA⟩:=h;have hpb:R.bs≠[]→b≠p:=fun hn=>(ha hn).ne_ hb (by decide)
 have hlen:l.length≤65536:=by omega
 have HP:=hide hpb;clear hpb;have HA0:=hide ha;clear ha;have hc0:w.cell? ⟨p,0,none⟩=some (.slice A R.bs.length cap):=hb.cell 0;have hc1:w.cell? ⟨p,1,none⟩=some (.int .i64 R.pos):=hb.cell 1;have hcf:=hb.frozen 1;go_enter Tryz.func202,Tryz.ntmps202;go_wp2_with (go_at_call 222;refine(isWidth_yes _ _ rfl).mono ?_;rintro e w' ⟨rfl,rfl⟩)
 go_loop [17,8] (fun i u=>∃ k:Nat,k≤l.length∧i= .int .i64 k) (fun i u=>l.length-(intOf i).toNat)
 case atStart=>exact⟨0,Nat.zero_le _,rfl⟩
 case round=>
  obtain⟨k,hk,rfl⟩:=hrel
  by_cases hlt:k<l.length
  ·obtain⟨ad,rfl,hn,hc⟩:=hl k (I l[k]) (by simp [hlt]);have hfk:=hide (hf l[k] (List.getElem_mem hlt));unfold I at hc;go_wp2_with (go_at_call 223;refine(holds_yes _ _ _ rfl hfk.out).mono ?_;rintro e w' ⟨rfl,rfl⟩)
   go_round
   case rel=>exact⟨k+1,by omega,by go_num⟩
   case measure=>simp [intOf];omega
  ·obtain rfl:k=l.length:=by omega
   go_wp2_with (go_at_call 221;refine(next_ok p b A R.bs.length cap R.pos _ _ hc0 hc1 hcf (by omega) (by omega) (by omega) (by omega) hA (by omega) (by omega)).mono ?_;rintro e w' ⟨A',rfl,hA',hAn,k,rfl⟩;rw[Int.toNat_natCast]at *;rw[show(2*(l.length:Int)).toNat=2*l.length by omega]);generalize hw1:(w.drewN k).setCell ⟨p,1,none⟩ (Value.int IntKind.i64 (↑R.pos+2*↑l.length))=w1
   have HK1:Hid (Kept [p,b] w w1):=by subst hw1;exact((Kept.refl _ w).drewN k).setCell (.inl (by simp)) _
   have HB1:Hid (Blk w1 p 294 #[.slice A R.bs.length cap,.int .i64 (R.pos+2*l.length)]):=by subst hw1;exact((hb.drewN k).set_ 1 _)
   have HA1:Hid (R.bs≠[]→Arr w1 b cap R.bs):=by subst hw1;exact fun hn=>((HA0.out hn).drewN k).far (HP.out hn) _
   clear hw1 hc0 hc1 hcf hb HA0;have HL:=hide hl;clear hl
   go_loopw [37] (fun i wr=>∃ j:Nat,j≤2*l.length∧i= .int .i64 j∧Kept [p,b] w wr∧Blk wr p 294 #[.slice A R.bs.length cap,.int .i64 (R.pos+2*l.length)]∧(R.bs≠[]→Arr wr b cap (over R.bs R.pos ((bytesOf 2 l).take j)))) (fun i wr=>2*l.length-(intOf i).toNat)
   case atStart=>exact⟨0,Nat.zero_le _,rfl,HK1.out,HB1.out,fun hn=>by simpa [over_nil]using HA1.out hn⟩
   case round=>
    obtain⟨j,hj,rfl,hk,hb,ha⟩:=hrel
    by_cases hlt:j<2*l.length
    ·have hjl:j/2<l.length:=by omega
     obtain⟨ad,rfl,hn,hc⟩:=(HL.out.kept hk (fun _ h=>h)) (j/2) (I (l.getD (j/2) 0)) (getI _ _ hjl);obtain rfl:=hA' (by omega);have Hne:Hid (R.bs≠[]):=hide (fun e=>by have h0:=congrArg List.length e;simp only[List.length_nil]at h0;omega)
     replace ha:=ha Hne.out
     obtain⟨z,hz⟩:∃ z,z=l.getD (j/2) 0:=⟨_,rfl⟩;rw[←hz]at hc;unfold I at hc;have Hz:=hide hz;clear hz;obtain⟨v0,hv0⟩:=ha.any (i:=R.pos+j) (by omega);have hvf:=ha.frozen (R.pos+j);have HA:=hide ha;have HB:=hide hb;clear ha hb;have g1:IntKind.i64.wrap ((j:Int)/2)=(j:Int)/2:=IntWalk.i64_in _ (by omega)
     have g2:(0:Int)≤(j:Int)/2:=by omega
     have g3:(j:Int)/2<l.length:=by omega
     have g4:((j:Int)/2).toNat=j/2:=by omega
     have hw0:IntKind.i64.wrap 0=0:=by decide
     have hw8:IntKind.i64.wrap 8=8:=by decide
     rcases(show(j:Int).tmod 2=0∨(j:Int).tmod 2=1 by rw[Int.tmod_eq_emod_of_nonneg (by omega)];omega)with hr|hr
     all_goals
      go_wp2
      go_still_tail 15,(by kernel_rfl)
      change wpList _ _ _ _ _ (World.drew wr);go_wp2;go_roundw
      case rel=>
       have HR:=hide hr;clear hr;refine⟨j+1,by omega,by go_num,(hk.set_ (.inl (by simp)) _ _).drew,(HB.out.far_ (Ne.symm (HP.out Hne.out)) _ _).drew,fun _=> ?_⟩;rw[bytesOf_take 2 l j (by omega),←over_snoc _ _ _ _ (by simp [bytesOf_length];omega),show R.pos+((bytesOf 2 l).take j).length=R.pos+j by simp [bytesOf_length];omega];have e:=HR.out;rw[byteOf_val 2 l j z _ Hz.out (by rw[show j%2=((j:Int).tmod 2).toNat by rw[Int.tmod_eq_emod_of_nonneg (by omega)];omega,e];simp)]
       exact(HA.out.set_ _).drew
      case measure=>simp [intOf];omega
    ·obtain rfl:j=2*l.length:=by omega
     go_wp2;go_ret;rw[List.take_of_length_le (by rw[bytesOf_length];omega)]at ha;have hol:(over R.bs R.pos (bytesOf 2 l)).length=R.bs.length:=over_length _ _ _ (by rw[bytesOf_length];omega);refine⟨rfl,⟨?_,fun hn=>ha (fun e=>hn (List.eq_nil_of_length_eq_zero (by rw[hol,e];rfl))),?_,?_,?_,hA⟩,hk⟩
     ·show Blk _ _ _ #[.slice A (over R.bs R.pos (bytesOf 2 l)).length cap,.int .i64 ((R.pos+2*l.length:Nat):Int)];rw[hol,show((R.pos+2*l.length:Nat):Int)=(R.pos:Int)+2*(l.length:Int)by omega];exact hb
     ·show(over R.bs R.pos (bytesOf _ l)).length≤cap
      omega
     ·show R.pos+2*l.length≤(over R.bs R.pos (bytesOf 2 l)).length
      omega
     ·show(over R.bs R.pos (bytesOf 2 l)).length≤65536
      omega
theorem put_ok4 (p b cap:Nat)(A:Option Addr)(R:Row)(L:Option Addr)(l:List Int)(c:Nat)(w:World)(h:RowAt w p b cap A R)(hl:Vals w [p,b] L (l.map I))(hf:∀ n∈l,fitsW 4 n=true)
  (hr:R.pos+4*l.length≤R.bs.length):
  Calls Tryz.prog 202 #[.pointer (some ⟨p,0,none⟩),.int .i64 4,.slice L l.length c] w fun e w'=>
   e= .returned (.bool true)∧RowAt w' p b cap A ⟨over R.bs R.pos (bytesOf 4 l),R.pos+4*l.length⟩∧Kept [p,b] w w':=by
 obtain⟨hb,ha,hap,hp,hz,hA⟩:=h;have hpb:R.bs≠[]→b≠p:=fun hn=>(ha hn).ne_ hb (by decide)
 have hlen:l.length≤65536:=by omega
 have HP:=hide hpb;clear hpb;have HA0:=hide ha;clear ha;have hc0:w.cell? ⟨p,0,none⟩=some (.slice A R.bs.length cap):=hb.cell 0;have hc1:w.cell? ⟨p,1,none⟩=some (.int .i64 R.pos):=hb.cell 1;have hcf:=hb.frozen 1;go_enter Tryz.func202,Tryz.ntmps202;go_wp2_with (go_at_call 222;refine(isWidth_yes _ _ rfl).mono ?_;rintro e w' ⟨rfl,rfl⟩)
 go_loop [17,8] (fun i u=>∃ k:Nat,k≤l.length∧i= .int .i64 k) (fun i u=>l.length-(intOf i).toNat)
 case atStart=>exact⟨0,Nat.zero_le _,rfl⟩
 case round=>
  obtain⟨k,hk,rfl⟩:=hrel
  by_cases hlt:k<l.length
  ·obtain⟨ad,rfl,hn,hc⟩:=hl k (I l[k]) (by simp [hlt]);have hfk:=hide (hf l[k] (List.getElem_mem hlt));unfold I at hc;go_wp2_with (go_at_call 223;refine(holds_yes _ _ _ rfl hfk.out).mono ?_;rintro e w' ⟨rfl,rfl⟩)
   go_round
   case rel=>exact⟨k+1,by omega,by go_num⟩
   case measure=>simp [intOf];omega
  ·obtain rfl:k=l.length:=by omega
   go_wp2_with (go_at_call 221;refine(next_ok p b A R.bs.length cap R.pos _ _ hc0 hc1 hcf (by omega) (by omega) (by omega) (by omega) hA (by omega) (by omega)).mono ?_;rintro e w' ⟨A',rfl,hA',hAn,k,rfl⟩;rw[Int.toNat_natCast]at *;rw[show(4*(l.length:Int)).toNat=4*l.length by omega]);generalize hw1:(w.drewN k).setCell ⟨p,1,none⟩ (Value.int IntKind.i64 (↑R.pos+4*↑l.length))=w1
   have HK1:Hid (Kept [p,b] w w1):=by subst hw1;exact((Kept.refl _ w).drewN k).setCell (.inl (by simp)) _
   have HB1:Hid (Blk w1 p 294 #[.slice A R.bs.length cap,.int .i64 (R.pos+4*l.length)]):=by subst hw1;exact((hb.drewN k).set_ 1 _)
   have HA1:Hid (R.bs≠[]→Arr w1 b cap R.bs):=by subst hw1;exact fun hn=>((HA0.out hn).drewN k).far (HP.out hn) _
   clear hw1 hc0 hc1 hcf hb HA0;have HL:=hide hl;clear hl
   go_loopw [37] (fun i wr=>∃ j:Nat,j≤4*l.length∧i= .int .i64 j∧Kept [p,b] w wr∧Blk wr p 294 #[.slice A R.bs.length cap,.int .i64 (R.pos+4*l.length)]∧(R.bs≠[]→Arr wr b cap (over R.bs R.pos ((bytesOf 4 l).take j)))) (fun i wr=>4*l.length-(intOf i).toNat)
   case atStart=>exact⟨0,Nat.zero_le _,rfl,HK1.out,HB1.out,fun hn=>by simpa [over_nil]using HA1.out hn⟩
   case round=>
    obtain⟨j,hj,rfl,hk,hb,ha⟩:=hrel
    by_cases hlt:j<4*l.length
    ·have hjl:j/4<l.length:=by omega
     obtain⟨ad,rfl,hn,hc⟩:=(HL.out.kept hk (fun _ h=>h)) (j/4) (I (l.getD (j/4) 0)) (getI _ _ hjl);obtain rfl:=hA' (by omega);have Hne:Hid (R.bs≠[]):=hide (fun e=>by have h0:=congrArg List.length e;simp only[List.length_nil]at h0;omega)
     replace ha:=ha Hne.out
     obtain⟨z,hz⟩:∃ z,z=l.getD (j/4) 0:=⟨_,rfl⟩;rw[←hz]at hc;unfold I at hc;have Hz:=hide hz;clear hz;obtain⟨v0,hv0⟩:=ha.any (i:=R.pos+j) (by omega);have hvf:=ha.frozen (R.pos+j);have HA:=hide ha;have HB:=hide hb;clear ha hb;have g1:IntKind.i64.wrap ((j:Int)/4)=(j:Int)/4:=IntWalk.i64_in _ (by omega)
     have g2:(0:Int)≤(j:Int)/4:=by omega
     have g3:(j:Int)/4<l.length:=by omega
     have g4:((j:Int)/4).toNat=j/4:=by omega
     have hw0:IntKind.i64.wrap 0=0:=by decide
     have hw16:IntKind.i64.wrap 16=16:=by decide
     have hw24:IntKind.i64.wrap 24=24:=by decide
     have hw8:IntKind.i64.wrap 8=8:=by decide
     rcases(show(j:Int).tmod 4=0∨(j:Int).tmod 4=1∨(j:Int).tmod 4=2∨(j:Int).tmod 4=3 by rw[Int.tmod_eq_emod_of_nonneg (by omega)];omega)with hr|hr|hr|hr
     all_goals
      go_wp2
      go_still_tail 15,(by kernel_rfl)
      change wpList _ _ _ _ _ (World.drew wr);go_wp2;go_roundw
      case rel=>
       have HR:=hide hr;clear hr;refine⟨j+1,by omega,by go_num,(hk.set_ (.inl (by simp)) _ _).drew,(HB.out.far_ (Ne.symm (HP.out Hne.out)) _ _).drew,fun _=> ?_⟩;rw[bytesOf_take 4 l j (by omega),←over_snoc _ _ _ _ (by simp [bytesOf_length];omega),show R.pos+((bytesOf 4 l).take j).length=R.pos+j by simp [bytesOf_length];omega];have e:=HR.out;rw[byteOf_val 4 l j z _ Hz.out (by rw[show j%4=((j:Int).tmod 4).toNat by rw[Int.tmod_eq_emod_of_nonneg (by omega)];omega,e];simp)]
       exact(HA.out.set_ _).drew
      case measure=>simp [intOf];omega
    ·obtain rfl:j=4*l.length:=by omega
     go_wp2;go_ret;rw[List.take_of_length_le (by rw[bytesOf_length];omega)]at ha;have hol:(over R.bs R.pos (bytesOf 4 l)).length=R.bs.length:=over_length _ _ _ (by rw[bytesOf_length];omega);refine⟨rfl,⟨?_,fun hn=>ha (fun e=>hn (List.eq_nil_of_length_eq_zero (by rw[hol,e];rfl))),?_,?_,?_,hA⟩,hk⟩
     ·show Blk _ _ _ #[.slice A (over R.bs R.pos (bytesOf 4 l)).length cap,.int .i64 ((R.pos+4*l.length:Nat):Int)];rw[hol,show((R.pos+4*l.length:Nat):Int)=(R.pos:Int)+4*(l.length:Int)by omega];exact hb
     ·show(over R.bs R.pos (bytesOf _ l)).length≤cap
      omega
     ·show R.pos+4*l.length≤(over R.bs R.pos (bytesOf 4 l)).length
      omega
     ·show(over R.bs R.pos (bytesOf 4 l)).length≤65536
      omega
end Go.Proofs.YtjkmahmoclobmaaGreat.row
namespace Go.Proofs.YtjkmahmoclobmaaGreat.row
open Go.RowKit mem
theorem info8:(Tryz.prog.info? 5).map (fun i=>(i.zero,i.size,i.bytes))=some (some (.int .u8 0),1,1):=by kernel_rfl
def NewBytes (w w':World)(A:Option Addr)(cap:Nat)(bs:List UInt8):Prop:=
 (A=none∧cap=0∧bs=[])∨∃ g,A=some ⟨g,0,none⟩∧w.heap.size≤g∧cap≤maxLen∧Arr w' g cap bs

theorem NewBytes.mono {w w1 w':World}{A:Option Addr}{cap:Nat}{bs:List UInt8}(h:NewBytes w1 w' A cap bs)(hs:w.heap.size≤w1.heap.size):NewBytes w w' A cap bs:=by
 rcases h with h|⟨g,h1,h2,h3⟩
 ·exact .inl h
 ·exact .inr ⟨g,h1,by omega,h3⟩

theorem arr_of_own {w:World}{base g n cap:Nat}{bs:List UInt8}(h:w.ownsRow base 5 1 (.slice (some ⟨g,0,none⟩) n cap) n (bs.map B)):base≤g∧cap≤maxLen∧Arr w g cap bs:=by
 rcases h.2 with⟨h,_⟩|⟨g',cap',cur,h,hb,hh,hn,hm,hs,ht⟩
 ·cases h
 ·injection h with h1 _ h2;injection h1 with h1;injection h1 with h1;subst h1 h2
  have hl:bs.length=n:=by simpa using h.1
  refine⟨hb,hm,cur,hh,by simpa using hs,by omega,fun i x hx=> ?_⟩;have hi:i<bs.length:=(List.getElem?_eq_some_iff.1 hx).1
  have e:(bs.map B)[i]? = some (B x):=by rw[List.getElem?_map,hx];rfl
  rw[←ht,List.getElem?_take_of_lt (by omega)]at e
  simpa using e

theorem own_lit (w:World):(w.alloc (.cells #[] 5)).ownsRow w.heap.size 5 1 (.slice (some ⟨w.heap.size,0,none⟩) 0 0) 0 []:=
 ⟨by simp,.inr ⟨_,0,#[],rfl,Nat.le_refl _,heap_alloc_new w _,Nat.le_refl _,Nat.zero_le _,rfl,rfl⟩⟩

theorem newBytes_of_own {w w':World}{v:Value}{n:Nat}{bs:List UInt8}(h:w'.ownsRow w.heap.size 5 1 v n (bs.map B)):∃ A cap,v= .slice A bs.length cap∧NewBytes w w' A cap bs:=by
 have hl:bs.length=n:=by simpa using h.1
 subst hl
 rcases h.2 with⟨rfl,h0⟩|⟨g,cap,cur,rfl,hb,_⟩
 ·exact⟨none,0,by rw[h0],.inl ⟨rfl,rfl,List.eq_nil_of_length_eq_zero h0⟩⟩
 ·obtain⟨_,hm,ha⟩:=arr_of_own h;exact⟨_,_,rfl,.inr ⟨g,rfl,hb,hm,ha⟩⟩

theorem clone_some (ad:Addr)(c:Nat)(bs:List UInt8)(w:World)(hv:Vals w [] (some ad) (bs.map B))(hm:bs.length≤140737488355328):
  Calls Tryz.prog 114 #[.slice (some ad) bs.length c] w fun e w'=>∃ A' cap,e= .returned (.slice A' bs.length cap)∧NewBytes w w' A' cap bs∧Kept [] w w':=by
 have hnil:=Lib.run_eql_slice_nil (P:=Tryz.prog);have HV:Hid (Vals (w.alloc (.cells #[] 5)) [] (some ad) (bs.map B)):=hide (hv.kept (S':=[]) ((Kept.refl _ w).alloc _) (fun _ h=>h));clear hv;go_enter Tryz.func114,Tryz.ntmps114;go_wp2_with (at_builtin;refine wpList_append_vals rfl (.tmp 5) (.tmp 6) 41 rfl w.heap.size 5 (.int .u8 0) 1 1 Tryz.underlying41 info8 rfl (by omega) (.slice (some ⟨w.heap.size,0,none⟩) 0 0) 0 [] rfl (own_lit w) [] (some ad) bs.length c (bs.map B) rfl (by simp) HV.out (oneCell_B bs) (by simp only[maxLen];omega) (by omega) (by simp) ?_;intro v1 w1 hown1 hk1 hat1);go_ret;obtain⟨A1,c1,rfl,hn1⟩:=newBytes_of_own (w:=w) (bs:=bs) (by simpa using hown1);refine⟨A1,c1,rfl,hn1,?_⟩;refine((Kept.refl [] w).alloc (.cells #[] 5)).trans hk1 (fun i hi=> .inr ?_)
 simp [Value.ownBlock]at hi
 omega

theorem clone_nil (w:World):Calls Tryz.prog 114 #[.slice none 0 0] w fun e w'=>e= .returned (.slice none 0 0)∧w=w':=by
 have hnil:=Lib.run_eql_slice_nil (P:=Tryz.prog);go_enter Tryz.func114,Tryz.ntmps114;go_wp2;go_ret;exact⟨rfl,rfl⟩

theorem clone_any (A:Option Addr)(c:Nat)(bs:List UInt8)(w:World)(hv:Vals w [] A (bs.map B))(hA:A=none→c=0)(hm:bs.length≤140737488355328):
  Calls Tryz.prog 114 #[.slice A bs.length c] w fun e w'=>∃ A' cap,e= .returned (.slice A' bs.length cap)∧NewBytes w w' A' cap bs∧Kept [] w w':=by
 rcases A with _|ad
 ·obtain rfl:bs=[]:=by
   rcases bs with _|⟨x,bs⟩
   ·rfl
   ·obtain⟨ad,h,_⟩:=hv 0 (B x) rfl;cases h
  obtain rfl:=hA rfl
  exact(clone_nil w).mono fun e w' ⟨he,hw⟩=>⟨_,_,he,.inl ⟨rfl,rfl,rfl⟩,by subst hw;exact Kept.refl _ _⟩
 ·exact clone_some ad c bs w hv hm

section
variable {w w':World}{p b cap:Nat}{A:Option Addr}{R:Row}
theorem RowAt.kept {S:List Nat}(h:RowAt w p b cap A R)(k:Kept S w w')(hp:p∉S)(hb:b∉S):RowAt w' p b cap A R:=by
 obtain⟨h1,h2,h3⟩:=h;exact⟨k.blk h1 hp,fun hn=>(h2 hn).kept k hb,h3⟩
theorem RowAt.vals {S:List Nat}(h:RowAt w p b cap A R)(hb:b∉S):Vals w S A (R.bs.map B):=by
 obtain⟨_,h2,_,_,_,h⟩:=h
 rcases h with rfl|⟨rfl,rfl⟩
 ·by_cases hn:R.bs=[]
  ·rw[hn];exact Vals.nil _ _ _
  ·exact(h2 hn).vals hb
 ·rename_i h3 h4 h5
  have:R.bs=[]:=List.eq_nil_of_length_eq_zero (by omega)
  rw[this];exact Vals.nil _ _ _
theorem RowAt.c0 (h:RowAt w p b cap A R):w.cell? ⟨p,0,none⟩=some (.slice A R.bs.length cap):=h.1.cell 0
theorem RowAt.c1 (h:RowAt w p b cap A R):w.cell? ⟨p,1,none⟩=some (.int .i64 R.pos):=h.1.cell 1
theorem RowAt.f1 (h:RowAt w p b cap A R):w.frozen? ⟨p,1,none⟩=false:=h.1.frozen 1
theorem RowAt.lt (h:RowAt w p b cap A R):p<w.heap.size:=h.1.lt
theorem RowAt.pos_le (h:RowAt w p b cap A R):R.pos≤R.bs.length:=h.2.2.2.1
theorem RowAt.len_le (h:RowAt w p b cap A R):R.bs.length≤65536:=h.2.2.2.2.1
theorem RowAt.le_cap (h:RowAt w p b cap A R):R.bs.length≤cap:=h.2.2.1
theorem RowAt.addr (h:RowAt w p b cap A R):A=some ⟨b,0,none⟩∨A=none∧cap=0:=h.2.2.2.2.2
theorem RowAt.nil0 (h:RowAt w p b cap A R)(hA:A=none):cap=0:=by
 rcases h.addr with h|h
 ·rw[hA]at h;cases h
 ·exact h.2
theorem RowAt.drewN (h:RowAt w p b cap A R)(k:Nat):RowAt (w.drewN k) p b cap A R:=h
theorem RowAt.moved (h:RowAt w p b cap A R)(n:Nat)(hn:R.pos+n≤R.bs.length)(q:Int)(hq:q=((R.pos+n:Nat):Int)):RowAt (w.setCell ⟨p,1,none⟩ (.int .i64 q)) p b cap A ⟨R.bs,R.pos+n⟩:=by
 subst hq;obtain⟨h1,h2,h3,h4,h5⟩:=h;exact⟨h1.set_ 1 _,fun hne=>(h2 hne).far_ ((h2 hne).ne_ h1 (by decide)) _ _,h3,hn,h5⟩
end
theorem left_at (p b cap:Nat)(A:Option Addr)(R:Row)(w:World)(h:RowAt w p b cap A R):
  Calls Tryz.prog 237 #[.pointer (some ⟨p,0,none⟩)] w fun e w'=>e= .returned (.int .i64 (R.bs.length-R.pos))∧∃ n,w'=w.drewN n:=
 left_any p A _ cap _ w h.c0 h.c1 (by omega) (by have:=h.pos_le;omega) h.len_le

theorem bytes_at (p b cap:Nat)(A:Option Addr)(R:Row)(w:World)(h:RowAt w p b cap A R):
  Calls Tryz.prog 205 #[.pointer (some ⟨p,0,none⟩)] w fun e w'=>∃ A' cap',e= .returned (.slice A' R.bs.length cap')∧NewBytes w w' A' cap' R.bs∧Kept [] w w':=by
 have hc:=h.c0;have H:=hide h;have hl:=h.len_le;clear h;go_enter Tryz.func205,Tryz.ntmps205;go_wp2_with (go_at_call 114;refine(clone_any A cap R.bs _ (H.out.vals (by simp)) H.out.nil0 (by omega)).mono ?_;rintro e w' ⟨A',c',rfl,hv,hk⟩);go_ret;exact⟨A',c',rfl,hv,hk⟩

theorem rowAt_of_new {w w1:World}{A:Option Addr}{cap:Nat}{bs:List UInt8}(hl:bs.length≤65536)(hs:w.heap.size≤w1.heap.size)(hv:NewBytes w w1 A cap bs):∃ b,w.heap.size≤b∧b<w1.heap.size+1∧
  RowAt (w1.alloc (.cells #[.slice A bs.length cap,.int .i64 0] 294)) w1.heap.size b cap A ⟨bs,0⟩:=by
 rcases hv with⟨rfl,rfl,rfl⟩|⟨g,rfl,hg,_,ha⟩
 ·exact⟨w.heap.size,Nat.le_refl _,by omega,Blk.new _ _ _,fun h=>absurd rfl h,Nat.zero_le _,Nat.zero_le _,hl,.inr ⟨rfl,rfl⟩⟩
 ·exact⟨g,hg,by have:=ha.lt;omega,Blk.new _ _ _,fun _=>ha.alloc _,ha.len,Nat.zero_le _,hl,.inl rfl⟩

theorem from_at (A:Option Addr)(c:Nat)(bs:List UInt8)(w:World)(hv:Vals w [] A (bs.map B))(hA:A=none→c=0)(hm:bs.length≤65536):
  Calls Tryz.prog 234 #[.slice A bs.length c] w fun e w'=>∃ p b cap A',e= .returned (.pointer (some ⟨p,0,none⟩))∧w.heap.size≤p∧w.heap.size≤b∧b<w'.heap.size∧RowAt w' p b cap A' ⟨bs,0⟩∧Kept [] w w':=by
 have H:=hide hv;clear hv;go_enter Tryz.func234,Tryz.ntmps234;go_wp2_with (go_at_call 114;refine(clone_any A c bs _ H.out hA (by omega)).mono ?_;rintro e w' ⟨A',c',rfl,hv,hk⟩);go_ret;obtain⟨b,hb,hb2,hr⟩:=rowAt_of_new hm hk.size hv;exact⟨_,b,c',A',rfl,hk.size,hb,by simpa using hb2,hr,hk.alloc _⟩

theorem lay_ok (p b cap:Nat)(A:Option Addr)(R:Row)(L:Option Addr)(xs:List UInt8)(c:Nat)(w:World)(h:RowAt w p b cap A R)(hl:Vals w [p,b] L (xs.map B))
  (hr:R.pos+xs.length≤R.bs.length):
  Calls Tryz.prog 201 #[.pointer (some ⟨p,0,none⟩),.slice L xs.length c] w fun e w'=>
   e= .returned (.bool true)∧RowAt w' p b cap A ⟨over R.bs R.pos xs,R.pos+xs.length⟩∧Kept [p,b] w w':=by
 have H:=hide h;have hlen:=h.len_le;clear h;have HL:=hide hl;clear hl;go_enter Tryz.func201,Tryz.ntmps201;go_wp2_with fail;refine(next_ok p b A R.bs.length cap R.pos _ _ H.out.c0 H.out.c1 H.out.f1 (by omega) (by omega) (by omega) H.out.le_cap H.out.addr (by omega) (by omega)).mono ?_;rintro e w' ⟨A',rfl,hA',hAn,k,rfl⟩;rw[Int.toNat_natCast,Int.toNat_natCast]at*;have H1:=hide ((H.out.drewN k).moved xs.length hr (R.pos+xs.length) (by omega));have HK:Hid (Kept [p,b] w ((w.drewN k).setCell ⟨p,1,none⟩ (Value.int IntKind.i64 (↑R.pos+↑xs.length)))):=hide (((Kept.refl _ w).drewN k).set_ (.inl (by simp)) _ _);generalize (w.drewN k).setCell ⟨p,1,none⟩ (Value.int IntKind.i64 (↑R.pos+↑xs.length))=w1 at*;have HA:=hide hA';clear hA';go_wp2_with ((refine wpList_copy_bytes (o:=⟨some 16,_,_,_,_,_⟩) rfl (.tmp 14) (.tmp 15) 41 41 rfl Tryz.underlying41 (by kernel_rfl) A' L xs.length (cap-R.pos) xs.length c rfl rfl xs (by simp) [p,b] (HL.out.kept HK.out (fun _ h=>h)) b R.pos cap R.bs (fun h0=>⟨HA.out (by omega),H1.out.2.1 (fun e=>by have h1:=congrArg List.length e;simp only[List.length_nil]at h1;omega),by omega⟩) ?_);intro w2 hk2 ha2 hn2);go_ret;have hol:(over R.bs R.pos xs).length=R.bs.length:=over_length _ _ _ (by omega);obtain⟨h1,h2,h3,h4,h5,h6⟩:=H1.out
 have hpb:b=p→R.bs=[]:=fun e=>by
  by_cases hn:R.bs=[]
  ·exact hn
  ·exact absurd e ((h2 hn).ne_ h1 (by decide))
 refine⟨rfl,⟨?_,fun hn=>ha2 (h2 (fun e=>hn (List.eq_nil_of_length_eq_zero (by rw[hol,e];rfl)))),by rw[hol];exact h3,by rw[hol];exact h4,by rw[hol];exact h5,h6⟩,HK.out.trans hk2 (fun i hi=> .inl (by simp at hi;simp [hi]))⟩;show Blk _ _ _ #[.slice A (over R.bs R.pos xs).length cap,.int .i64 ((R.pos+xs.length:Nat):Int)];rw[hol]
 by_cases hx:xs=[]
 ·rw[hn2 hx];exact h1
 ·have hl1:0<xs.length:=List.length_pos_iff.2 hx
  have hne:b≠p:=fun e=>by
   have:=congrArg List.length (hpb e)
   simp only[List.length_nil]at this
   omega
  exact hk2.blk h1 (by simpa using Ne.symm hne)
end Go.Proofs.YtjkmahmoclobmaaGreat.row
namespace Go.Proofs.YtjkmahmoclobmaaGreat.row
open Go.RowKit mem
theorem new_at (n:Int)(w:World)(h0:0≤n)(h1:n≤65536):
  Calls Tryz.prog 200 #[.int .i64 n] w fun e w'=>∃ p b cap A,e= .returned (.pointer (some ⟨p,0,none⟩))∧w.heap.size≤p∧w.heap.size≤b∧b<w'.heap.size∧RowAt w' p b cap A ⟨List.replicate n.toNat 0,0⟩∧Kept [] w w':=by
 refine(new_ok n w h0 h1).mono fun e w' ⟨he,hw⟩=>⟨w.heap.size+1,w.heap.size,n.toNat,some ⟨w.heap.size,0,none⟩,he,by omega,by omega,by subst hw;simp;omega,?_,by subst hw;exact((Kept.refl _ w).alloc _).alloc _⟩;subst hw;refine⟨?_,fun _=>⟨_,Blk.alloc (Blk.new _ _ _) _,by rw[size_madeCells],by simp,fun i x hx=> ?_⟩,by simp,Nat.zero_le _,by simp;omega,.inl rfl⟩
 ·have:=Blk.new (w.alloc (.cells (madeCells #[.int .u8 0] n.toNat) 5)) 294 #[.slice (some ⟨w.heap.size,0,none⟩) n.toNat n.toNat,.int .i64 0]
  simpa using this
 ·rw[List.getElem?_replicate]at hx
  split at hx
  ·rename_i hi
   injection hx with hx;subst hx
   simp [madeCells,hi,Nat.mod_one]
   rfl
  ·cases hx

theorem lay_no (p b cap:Nat)(A:Option Addr)(R:Row)(L:Option Addr)(n c:Nat)(w:World)(h:RowAt w p b cap A R)(hr:R.bs.length<R.pos+n):
  Calls Tryz.prog 201 #[.pointer (some ⟨p,0,none⟩),.slice L n c] w fun e w'=>e= .returned (.bool false)∧∃ k,w'=w.drewN k:=by
 have H:=hide h;have hlen:=h.len_le;have hpl:=h.pos_le;clear h;go_enter Tryz.func201,Tryz.ntmps201;go_wp2_with fail;refine(next_no p A R.bs.length cap R.pos _ _ H.out.c0 H.out.c1 (by omega) (by omega) (by omega) (by omega)).mono ?_;rintro e w' ⟨rfl,k,rfl⟩;go_wp2_with (refine wpList_copy_bytes (o:=⟨some 16,_,_,_,_,_⟩) rfl (.tmp 14) (.tmp 15) 41 41 rfl Tryz.underlying41 (by kernel_rfl) none L 0 0 n c rfl rfl [] (by simp) [] (Vals.nil _ _ _) 0 0 0 [] (fun h0=>absurd h0 (by simp)) ?_;intro w2 hk2 ha2 hn2);go_ret;exact⟨rfl,k,rfl⟩
def numOf (l:List UInt8):Int:=l.foldr (fun x n=>(x.toNat:Int)+256*n) 0

theorem numOf_bd (l:List UInt8):0≤numOf l∧numOf l<256^l.length:=by
 induction l with
 | nil=>simp [numOf]
 | cons x l ih=>
  have hx:=x.toNat_lt;have e:numOf (x::l)=(x.toNat:Int)+256*numOf l:=rfl;rw[e,List.length_cons,Int.pow_succ]
  omega
theorem numOf_snoc (l:List UInt8)(y:UInt8):numOf (l++[y])=numOf l+y.toNat*256^l.length:=by
 induction l with
 | nil=>simp [numOf]
 | cons x l ih=>
  have e:numOf (x::(l++[y]))=(x.toNat:Int)+256*numOf (l++[y]):=rfl;have e2:numOf (x::l)=(x.toNat:Int)+256*numOf l:=rfl;rw[List.cons_append,e,ih,e2,List.length_cons,Int.pow_succ,Int.mul_add]
  have:(256:Int)*(y.toNat*256^l.length)=y.toNat*(256^l.length*256):=by
   rw[Int.mul_comm 256,Int.mul_assoc]
  omega
theorem ofInt_i64 (a:Nat)(ha:a<9223372036854775808):(BitVec.ofInt 64 (a:Int)).toNat=a:=by
 rw[BitVec.ofInt_natCast,BitVec.toNat_ofNat];exact Nat.mod_eq_of_lt (by omega)
theorem i64_or_nat (a b:Nat)(ha:a<9223372036854775808)(hb:b<9223372036854775808):bits .or .i64 (a:Int) (b:Int)=((a ||| b:Nat):Int):=by
 have hx:a ||| b<2^63:=Nat.or_lt_two_pow (by omega) (by omega)
 show IntKind.i64.wrap ((BitVec.ofInt 64 (a:Int) ||| BitVec.ofInt 64 (b:Int)).toNat:Int)=_;rw[BitVec.toNat_or,ofInt_i64 a ha,ofInt_i64 b hb,IntKind.wrap_i64]
 omega
theorem i64_and_nat (a b:Nat)(ha:a<9223372036854775808)(hb:b<9223372036854775808):bits .and .i64 (a:Int) (b:Int)=((a&&&b:Nat):Int):=by
 have hx:a&&&b<2^63:=Nat.and_lt_two_pow _ (by omega);show IntKind.i64.wrap ((BitVec.ofInt 64 (a:Int)&&&BitVec.ofInt 64 (b:Int)).toNat:Int)=_;rw[BitVec.toNat_and,ofInt_i64 a ha,ofInt_i64 b hb,IntKind.wrap_i64]
 omega
theorem or_far (a y i:Nat)(ha:a<2^i)(h:a+y*2^i<9223372036854775808):bits .or .i64 (a:Int) ((y:Int)*(2^i:Nat))=(a:Int)+(y:Int)*(2^i:Nat):=by
 have e:((y:Int)*(2^i:Nat))=((y*2^i:Nat):Int):=by simp
 rw[e,i64_or_nat a _ (by omega) (by omega),Nat.or_comm,←Nat.shiftLeft_eq,←Nat.shiftLeft_add_eq_or_of_lt ha,Nat.shiftLeft_eq]
 omega

theorem clone_len (A:Option Addr)(c k:Nat)(bs:List UInt8)(w:World)(hk:bs.length=k)(hv:Vals w [] A (bs.map B))(hA:A=none→c=0)(hm:k≤140737488355328):
  Calls Tryz.prog 114 #[.slice A k c] w fun e w'=>∃ A' cap,e= .returned (.slice A' k cap)∧NewBytes w w' A' cap bs∧Kept [] w w':=by
 subst hk;exact clone_any A c bs w hv hA hm
theorem vals_cut {w:World}{b cap pos n:Nat}{bs:List UInt8}{A:Option Addr}(h:0<n→A=some ⟨b,pos,none⟩∧Arr w b cap bs)(_hn:pos+n≤bs.length):Vals w [] A (((bs.drop pos).take n).map B):=by
 intro i v hv;rw[List.getElem?_map]at hv;obtain⟨x,hx,rfl⟩:=Option.map_eq_some_iff.1 hv
 have hi:i<n:=by
  have:=(List.getElem?_eq_some_iff.1 hx).1
  rw[List.length_take]at this
  omega
 obtain⟨rfl,ha⟩:=h (by omega);rw[List.getElem?_take_of_lt hi,List.getElem?_drop]at hx;refine⟨_,rfl,by simp,?_⟩;rw[add_mk];obtain⟨cs,hb,_,_,hr⟩:=ha;rw[hb.cell];exact hr _ _ hx

theorem take_ok (p b cap:Nat)(A:Option Addr)(R:Row)(n:Int)(w:World)(h:RowAt w p b cap A R)(h0:0≤n)(hr:R.pos+n≤R.bs.length):
  Calls Tryz.prog 239 #[.pointer (some ⟨p,0,none⟩),.int .i64 n] w fun e w'=>
   ∃ A' c',e= .returned (.tuple #[.slice A' n.toNat c',.bool true])∧NewBytes w w' A' c' ((R.bs.drop R.pos).take n.toNat)∧RowAt w' p b cap A ⟨R.bs,R.pos+n.toNat⟩∧Kept [p] w w':=by
 have hlen:=h.len_le;have hpl:=h.pos_le;have H:=hide h;clear h;obtain⟨n,rfl⟩:=Int.eq_ofNat_of_zero_le h0;rw[Int.toNat_natCast];have HR:=hide hr;clear hr h0;go_enter Tryz.func239,Tryz.ntmps239;go_wp2_with fail;refine(next_ok p b A R.bs.length cap R.pos _ _ H.out.c0 H.out.c1 H.out.f1 (by omega) (by omega) (by omega) H.out.le_cap H.out.addr (by omega) (by have:=HR.out;omega)).mono ?_;rintro e w' ⟨A',rfl,hA',hAn,k,rfl⟩;rw[Int.toNat_natCast,Int.toNat_natCast]at*;have H1:=hide ((H.out.drewN k).moved n (by have:=HR.out;omega) (R.pos+n) (by omega));have HK:Hid (Kept [p] w ((w.drewN k).setCell ⟨p,1,none⟩ (Value.int IntKind.i64 (↑R.pos+↑n)))):=hide (((Kept.refl _ w).drewN k).set_ (.inl (by simp)) _ _);generalize (w.drewN k).setCell ⟨p,1,none⟩ (Value.int IntKind.i64 (↑R.pos+↑n))=w1 at*;have HA:=hide hA';clear hA';go_wp2_with fail;refine(clone_len A' (cap-R.pos) n ((R.bs.drop R.pos).take n) _ (by have:=HR.out;simp;omega) (vals_cut (b:=b) (cap:=cap) (fun hn=>⟨HA.out (by omega),H1.out.2.1 (fun e=>by have h0:=congrArg List.length e;have:=HR.out;simp only[List.length_nil]at h0;omega)⟩) (by have:=HR.out;omega)) ?_ (by have:=HR.out;omega)).mono ?_
 ·intro hn;have:=hAn hn;omega
 rintro e w' ⟨A2,c2,rfl,hv,hk⟩;go_wp2;go_ret2;refine⟨A2,c2,rfl,?_,H1.out.kept hk (by simp) (by simp),HK.out.trans hk (by simp)⟩;exact hv.mono HK.out.size

theorem take_no (p b cap:Nat)(A:Option Addr)(R:Row)(n:Int)(w:World)(h:RowAt w p b cap A R)(hr:n<0∨R.bs.length<R.pos+n):
  Calls Tryz.prog 239 #[.pointer (some ⟨p,0,none⟩),.int .i64 n] w fun e w'=>e= .returned (.tuple #[.slice none 0 0,.bool false])∧∃ k,w'=w.drewN k:=by
 have H:=hide h;have hlen:=h.len_le;have hpl:=h.pos_le;clear h;have HR:=hide hr;clear hr;go_enter Tryz.func239,Tryz.ntmps239;go_wp2_with fail;refine(next_no p A R.bs.length cap R.pos _ _ H.out.c0 H.out.c1 (by omega) (by omega) (by omega) (by have:=HR.out;omega)).mono ?_;rintro e w' ⟨rfl,k,rfl⟩;go_wp2_with fail;refine(clone_nil _).mono ?_;rintro e w' ⟨rfl,rfl⟩;go_wp2;go_ret2;exact⟨rfl,k,rfl⟩

theorem get_width (p:Nat)(x:Int)(w:World)(hx:isW x=false):
  Calls Tryz.prog 243 #[.pointer (some ⟨p,0,none⟩),.int .i64 x] w fun e w'=>e= .returned (.tuple #[.int .i64 0,.bool false])∧w=w':=by
 have HX:=hide hx;clear hx;go_enter Tryz.func243,Tryz.ntmps243;go_wp2_with (go_at_call 222;refine(isWidth_no _ _ HX.out).mono ?_;rintro e w' ⟨rfl,rfl⟩);go_ret2;exact⟨rfl,rfl⟩

theorem get_short (p b cap:Nat)(A:Option Addr)(R:Row)(x:Int)(w:World)(h:RowAt w p b cap A R)(hx:isW x=true)(hr:R.bs.length<R.pos+x):
  Calls Tryz.prog 243 #[.pointer (some ⟨p,0,none⟩),.int .i64 x] w fun e w'=>e= .returned (.tuple #[.int .i64 0,.bool false])∧∃ k,w'=w.drewN k:=by
 have H:=hide h;have hlen:=h.len_le;have hpl:=h.pos_le;clear h;have HX:=hide hx;clear hx;go_enter Tryz.func243,Tryz.ntmps243;go_wp2_with (first|(go_at_call 222;refine(isWidth_yes _ _ HX.out).mono ?_;rintro e w' ⟨rfl,rfl⟩)|(go_at_call 221;refine(next_no p A R.bs.length cap R.pos _ _ H.out.c0 H.out.c1 (by omega) (by omega) (by omega) (by omega)).mono ?_;rintro e w' ⟨rfl,k,rfl⟩))
 go_loop [8,22] (fun n i=>n= .int .i64 0∧i= .int .i64 0) (fun _ _=>0)
 case atStart=>exact⟨rfl,rfl⟩
 case round=>
  obtain⟨rfl,rfl⟩:=hrel;go_wp2;go_ret2;exact⟨rfl,k,rfl⟩

theorem get_step {bs:List UInt8}{pos n j:Nat}{y:UInt8}{z:Int}{h:pos+j<bs.length}(hy:bs[pos+j]=y)(hz:numOf (((bs.drop pos).take n).take j)=z){q:Int}(hq:q=y.toNat*(256^j:Int))(hj:j<n)(h4:j<4):
  Value.int .i64 (bits .or .i64 z q)= .int .i64 (numOf (((bs.drop pos).take n).take (j+1))):=by
 subst hq
 have hl:((bs.drop pos).take n).length>j:=by simp;omega
 have e:(((bs.drop pos).take n).take (j+1))=(((bs.drop pos).take n).take j)++[y]:=by
  rw[List.take_succ_eq_append_getElem hl]
  simp [hy]
 have hb:=numOf_bd (((bs.drop pos).take n).take j)
 have hlj:(((bs.drop pos).take n).take j).length=j:=by rw[List.length_take];omega
 rw[hlj,hz]at hb;rw[e,numOf_snoc,hz,hlj];obtain⟨a,rfl⟩:=Int.eq_ofNat_of_zero_le hb.1
 have hp:(256:Int)^j=((2^(8*j):Nat):Int):=by rw[Nat.pow_mul];simp
 have hy:=y.toNat_lt;rw[hp]at hb ⊢;have h2:(2:Nat)^(8*j)≤2^24:=Nat.pow_le_pow_right (by omega) (by omega);have h3:y.toNat*2^(8*j)≤255*2^24:=Nat.mul_le_mul (by omega) h2;rw[or_far a y.toNat (8*j) (by omega) (by omega)]

theorem get_ok (p b cap:Nat)(A:Option Addr)(R:Row)(x:Int)(w:World)(h:RowAt w p b cap A R)(hx:isW x=true)(hr:R.pos+x≤R.bs.length):
  Calls Tryz.prog 243 #[.pointer (some ⟨p,0,none⟩),.int .i64 x] w fun e w'=>
   e= .returned (.tuple #[.int .i64 (numOf ((R.bs.drop R.pos).take x.toNat)),.bool true])∧RowAt w' p b cap A ⟨R.bs,R.pos+x.toNat⟩∧Kept [p] w w':=by
 have hlen:=h.len_le;have hpl:=h.pos_le;have H:=hide h;clear h
 have hx':x=1∨x=2∨x=4:=by simpa [isW,or_assoc]using hx
 have HX:=hide hx;clear hx;obtain⟨n,rfl⟩:=Int.eq_ofNat_of_zero_le (show 0≤x by omega);rw[Int.toNat_natCast]
 have hne:R.bs≠[]:=fun e=>by have:=congrArg List.length e;simp only[List.length_nil]at this;omega
 have HA:=hide (H.out.2.1 hne);have HR:=hide hr;clear hr hne
 have hn4:n≤4:=by omega
 clear hx';go_enter Tryz.func243,Tryz.ntmps243;go_wp2_with (first|(go_at_call 222;refine(isWidth_yes _ _ HX.out).mono ?_;rintro e w' ⟨rfl,rfl⟩)|(go_at_call 221;refine(next_ok p b A R.bs.length cap R.pos _ _ H.out.c0 H.out.c1 H.out.f1 (by omega) (by omega) (by omega) H.out.le_cap H.out.addr (by omega) (by have:=HR.out;omega)).mono ?_;rintro e w' ⟨A',rfl,hA',hAn,k,rfl⟩;rw[Int.toNat_natCast,Int.toNat_natCast]at *));have H1:=hide ((H.out.drewN k).moved n (by have:=HR.out;omega) (R.pos+n) (by omega));have HK:Hid (Kept [p] w ((w.drewN k).setCell ⟨p,1,none⟩ (Value.int IntKind.i64 (↑R.pos+↑n)))):=hide (((Kept.refl _ w).drewN k).set_ (.inl (by simp)) _ _);generalize (w.drewN k).setCell ⟨p,1,none⟩ (Value.int IntKind.i64 (↑R.pos+↑n))=w1 at*
 have hn0:0<n:=by
  rcases Nat.eq_zero_or_pos n with h|h
  ·have:=HX.out;subst h;simp [isW]at this
  ·exact h
 obtain rfl:=hA' (by omega);clear hA'
 go_loop [8,22] (fun v i=>∃ k:Nat,k≤n∧i= .int .i64 k∧v= .int .i64 (numOf (((R.bs.drop R.pos).take n).take k))) (fun _ i=>n-(intOf i).toNat)
 case atStart=>exact⟨0,Nat.zero_le _,rfl,rfl⟩
 case round=>
  obtain⟨j,hj,rfl,rfl⟩:=hrel
  by_cases hlt:j<n
  ·have hc:=(H1.out.2.1 (fun e=>by have h0:=congrArg List.length e;have:=HR.out;simp only[List.length_nil]at h0;omega)).cell (i:=R.pos+j) (by have:=HR.out;show R.pos+j<R.bs.length;omega);generalize hy:(R.bs[R.pos+j]'(by have:=HR.out;omega))=y at hc;have HY:=hide hy;clear hy;unfold B at hc
   have hj4:j=0∨j=1∨j=2∨j=3:=by omega
   generalize hz:numOf (((R.bs.drop R.pos).take n).take j)=z;have HZ:=hide hz;clear hz
   rcases hj4 with rfl|rfl|rfl|rfl
   all_goals
    try rw[Nat.add_zero]at hc
    have hy256:(y.toNat:Int)<256:=by have:=y.toNat_lt;omega
    go_wp2
    go_round
    case rel=>exact⟨_,hlt,by go_num,get_step HY.out HZ.out (by simp) (by omega) (by omega)⟩
    case measure=>simp [intOf];omega
  ·obtain rfl:j=n:=by omega
   go_wp2;go_ret2;rw[List.take_of_length_le (by simp;omega)];exact⟨rfl,H1.out,HK.out⟩
end Go.Proofs.YtjkmahmoclobmaaGreat.row
namespace Go.Proofs.YtjkmahmoclobmaaGreat.row
open Go.RowKit mem
theorem put_width (p:Nat)(x:Int)(L:Option Addr)(n c:Nat)(w:World)(hx:isW x=false):
  Calls Tryz.prog 202 #[.pointer (some ⟨p,0,none⟩),.int .i64 x,.slice L n c] w fun e w'=>e= .returned (.bool false)∧w=w':=by
 have HX:=hide hx;clear hx;go_enter Tryz.func202,Tryz.ntmps202;go_wp2_with (go_at_call 222;refine(isWidth_no _ _ HX.out).mono ?_;rintro e w' ⟨rfl,rfl⟩);go_ret;exact⟨rfl,rfl⟩

theorem put_unfit (q:Option Addr)(x:Int)(L:Option Addr)(l:List Int)(c:Nat)(S:List Nat)(w:World)(hx:isW x=true)(hl:Vals w S L (l.map I))(hf:∃ n∈l,fitsW x n=false)(hm:l.length≤140737488355328):
  Calls Tryz.prog 202 #[.pointer q,.int .i64 x,.slice L l.length c] w fun e w'=>e= .returned (.bool false)∧w=w':=by
 have HX:=hide hx;clear hx;have HF:=hide hf;clear hf;have HL:=hide hl;clear hl;go_enter Tryz.func202,Tryz.ntmps202;go_wp2_with (go_at_call 222;refine(isWidth_yes _ _ HX.out).mono ?_;rintro e w' ⟨rfl,rfl⟩)
 go_loop [17] (fun i=>∃ k:Nat,k≤l.length∧i= .int .i64 k∧Hid (∀ j (h:j<l.length),j<k→fitsW x l[j]=true)) (fun i=>l.length-(intOf i).toNat)
 case atStart=>exact⟨0,Nat.zero_le _,rfl,hide (fun _ _ h=>absurd h (by omega))⟩
 case round=>
  obtain⟨k,hk,rfl,hall⟩:=hrel
  by_cases hlt:k<l.length
  ·obtain⟨ad,rfl,hn,hc⟩:=HL.out k (I l[k]) (by simp [hlt]);unfold I at hc
   by_cases hfk:fitsW x l[k]=true
   ·have HK:=hide hfk;clear hfk;go_wp2_with (go_at_call 223;refine(holds_yes _ _ _ HX.out HK.out).mono ?_;rintro e w' ⟨rfl,rfl⟩)
    go_round
    case rel=>
     refine⟨k+1,by omega,by go_num,hide (fun j h hj=> ?_)⟩
     rcases Nat.lt_or_ge j k with h1|h1
     ·exact hall.out j h h1
     ·obtain rfl:j=k:=by omega
      exact HK.out
    case measure=>simp [intOf];omega
   ·have HK:=hide ((Bool.not_eq_true _).mp hfk);clear hfk;go_wp2_with (go_at_call 223;refine(holds_no _ _ _ HX.out HK.out).mono ?_;rintro e w' ⟨rfl,rfl⟩);go_ret;exact⟨rfl,rfl⟩
  ·exfalso
   obtain⟨n,hn,hnf⟩:=HF.out;obtain⟨j,hj,rfl⟩:=List.getElem_of_mem hn
   have:=hall.out j hj (by omega)
   rw[this]at hnf;cases hnf

theorem put_long (p b cap:Nat)(A:Option Addr)(R:Row)(x:Int)(L:Option Addr)(l:List Int)(c:Nat)(S:List Nat)(w:World)(h:RowAt w p b cap A R)(hx:isW x=true)(hl:Vals w S L (l.map I))
  (hf:∀ n∈l,fitsW x n=true) (hm:l.length≤140737488355328) (hr:(R.bs.length:Int)<R.pos+x*l.length):
  Calls Tryz.prog 202 #[.pointer (some ⟨p,0,none⟩),.int .i64 x,.slice L l.length c] w fun e w'=>e= .returned (.bool false)∧∃ k,w'=w.drewN k:=by
 have hlen:=h.len_le;have hpl:=h.pos_le;have H:=hide h;clear h
 have hx':x=1∨x=2∨x=4:=by simpa [isW,or_assoc]using hx
 clear hx;have HL:=hide hl;clear hl;have HF:=hide hf;clear hf;have HR:=hide hr;clear hr
 rcases hx' with rfl|rfl|rfl
 all_goals
  go_enter Tryz.func202,Tryz.ntmps202;go_wp2_with (go_at_call 222;refine(isWidth_yes _ _ rfl).mono ?_;rintro e w' ⟨rfl,rfl⟩)
  go_loop [17] (fun i=>∃ k:Nat,k≤l.length∧i= .int .i64 k) (fun i=>l.length-(intOf i).toNat)
  case atStart=>exact⟨0,Nat.zero_le _,rfl⟩
  case round=>
   obtain⟨k,hk,rfl⟩:=hrel
   by_cases hlt:k<l.length
   ·obtain⟨ad,rfl,hn,hc⟩:=HL.out k (I l[k]) (by simp [hlt]);have hfk:=hide (HF.out l[k] (List.getElem_mem hlt));unfold I at hc;go_wp2_with (go_at_call 223;refine(holds_yes _ _ _ rfl hfk.out).mono ?_;rintro e w' ⟨rfl,rfl⟩)
    go_round
    case rel=>exact⟨k+1,by omega,by go_num⟩
    case measure=>simp [intOf];omega
   ·obtain rfl:k=l.length:=by omega
    go_wp2_with (go_at_call 221;refine(next_no p A R.bs.length cap R.pos _ _ H.out.c0 H.out.c1 (by omega) (by omega) (by omega) (by have:=HR.out;omega)).mono ?_;rintro e w' ⟨rfl,k,rfl⟩)
    go_loop [37] (fun i=>i= .int .i64 0) (fun _=>0)
    case atStart=>rfl
    case round=>
     obtain rfl:=hrel;go_wp2;go_ret;exact⟨rfl,k,rfl⟩
def Row.put (R:Row)(x:Int)(l:List Int):Bool×Row:=
 if isW x=true∧(∀ n∈l,fitsW x n=true)∧R.pos+x.toNat*l.length≤R.bs.length then(true,⟨over R.bs R.pos (bytesOf x.toNat l),R.pos+x.toNat*l.length⟩)else(false,R)

theorem put_at (p b cap:Nat)(A:Option Addr)(R:Row)(x:Int)(L:Option Addr)(l:List Int)(c:Nat)(w:World)(h:RowAt w p b cap A R)(hl:Vals w [p,b] L (l.map I))(hm:l.length≤140737488355328):
  Calls Tryz.prog 202 #[.pointer (some ⟨p,0,none⟩),.int .i64 x,.slice L l.length c] w fun e w'=>
   e= .returned (.bool (R.put x l).1)∧RowAt w' p b cap A (R.put x l).2∧Kept [p,b] w w':=by
 have hlen:=h.len_le
 by_cases hx:isW x=true
 ·by_cases hf:∀ n∈l,fitsW x n=true
  ·have hx':x=1∨x=2∨x=4:=by simpa [isW,or_assoc]using hx
   by_cases hr:R.pos+x.toNat*l.length≤R.bs.length
   ·have e:R.put x l=(true,⟨over R.bs R.pos (bytesOf x.toNat l),R.pos+x.toNat*l.length⟩):=if_pos ⟨hx,hf,hr⟩;rw[e]
    rcases hx' with rfl|rfl|rfl
    ·have hr':R.pos+l.length≤R.bs.length:=by simp at hr;omega
     refine(put_ok1 p b cap A R L l c w h hl hf hr').mono fun e w' ⟨h1,h2,h3⟩=>⟨h1,?_,h3⟩
     simpa using h2
    ·exact put_ok2 p b cap A R L l c w h hl hf hr
    ·exact put_ok4 p b cap A R L l c w h hl hf hr
   ·have e:R.put x l=(false,R):=if_neg (fun h=>hr h.2.2);rw[e];refine(put_long p b cap A R x L l c [p,b] w h hx hl hf hm ?_).mono fun e w' ⟨h1,k,h2⟩=>⟨h1,by subst h2;exact h.drewN k,by subst h2;exact(Kept.refl _ w).drewN k⟩
    rcases hx' with rfl|rfl|rfl<;>simp at hr<;>omega
  ·have e:R.put x l=(false,R):=if_neg (fun h=>hf h.2.1);rw[e];refine(put_unfit _ x L l c [p,b] w hx hl ?_ hm).mono fun e w' ⟨h1,h2⟩=>⟨h1,by subst h2;exact h,by subst h2;exact Kept.refl _ _⟩
   simpa using hf
 ·have e:R.put x l=(false,R):=if_neg (fun h=>hx h.1);rw[e]
  exact(put_width p x L l.length c w ((Bool.not_eq_true _).mp hx)).mono fun e w' ⟨h1,h2⟩=>⟨h1,by subst h2;exact h,by subst h2;exact Kept.refl _ _⟩

theorem put_len (p b cap:Nat)(A:Option Addr)(R:Row)(x:Int)(L:Option Addr)(l:List Int)(n c:Nat)(w:World)(hn:l.length=n)(h:RowAt w p b cap A R)(hl:Vals w [p,b] L (l.map I))(hm:n≤140737488355328):
  Calls Tryz.prog 202 #[.pointer (some ⟨p,0,none⟩),.int .i64 x,.slice L n c] w fun e w'=>
   e= .returned (.bool (R.put x l).1)∧RowAt w' p b cap A (R.put x l).2∧Kept [p,b] w w':=by
 subst hn;exact put_at p b cap A R x L l c w h hl hm
def Row.lay (R:Row)(xs:List UInt8):Bool×Row:=if R.pos+xs.length≤R.bs.length then(true,⟨over R.bs R.pos xs,R.pos+xs.length⟩)else(false,R)
def Row.get (R:Row)(x:Int):Int×Bool×Row:=if isW x=true∧R.pos+x.toNat≤R.bs.length then(numOf ((R.bs.drop R.pos).take x.toNat),true,⟨R.bs,R.pos+x.toNat⟩)else(0,false,R)
def Row.take (R:Row)(n:Int):List UInt8×Bool×Row:=if 0≤n∧R.pos+n≤R.bs.length then((R.bs.drop R.pos).take n.toNat,true,⟨R.bs,R.pos+n.toNat⟩)else([],false,R)

theorem lay_at (p b cap:Nat)(A:Option Addr)(R:Row)(L:Option Addr)(xs:List UInt8)(c:Nat)(w:World)(h:RowAt w p b cap A R)(hl:Vals w [p,b] L (xs.map B)):
  Calls Tryz.prog 201 #[.pointer (some ⟨p,0,none⟩),.slice L xs.length c] w fun e w'=>
   e= .returned (.bool (R.lay xs).1)∧RowAt w' p b cap A (R.lay xs).2∧Kept [p,b] w w':=by
 by_cases hr:R.pos+xs.length≤R.bs.length
 ·have e:R.lay xs=(true,⟨over R.bs R.pos xs,R.pos+xs.length⟩):=if_pos hr;rw[e];exact lay_ok p b cap A R L xs c w h hl hr
 ·have e:R.lay xs=(false,R):=if_neg hr;rw[e]
  exact(lay_no p b cap A R L xs.length c w h (by omega)).mono fun e w' ⟨h1,k,h2⟩=>⟨h1,by subst h2;exact h.drewN k,by subst h2;exact(Kept.refl _ w).drewN k⟩

theorem lay_len (p b cap:Nat)(A:Option Addr)(R:Row)(L:Option Addr)(xs:List UInt8)(n c:Nat)(w:World)(hn:xs.length=n)(h:RowAt w p b cap A R)(hl:Vals w [p,b] L (xs.map B)):
  Calls Tryz.prog 201 #[.pointer (some ⟨p,0,none⟩),.slice L n c] w fun e w'=>
   e= .returned (.bool (R.lay xs).1)∧RowAt w' p b cap A (R.lay xs).2∧Kept [p,b] w w':=by
 subst hn;exact lay_at p b cap A R L xs c w h hl

theorem get_at (p b cap:Nat)(A:Option Addr)(R:Row)(x:Int)(w:World)(h:RowAt w p b cap A R):
  Calls Tryz.prog 243 #[.pointer (some ⟨p,0,none⟩),.int .i64 x] w fun e w'=>
   e= .returned (.tuple #[.int .i64 (R.get x).1,.bool (R.get x).2.1])∧RowAt w' p b cap A (R.get x).2.2∧Kept [p] w w':=by
 by_cases hx:isW x=true
 ·have hx':x=1∨x=2∨x=4:=by simpa [isW,or_assoc]using hx
  by_cases hr:R.pos+x.toNat≤R.bs.length
  ·have e:R.get x=(numOf ((R.bs.drop R.pos).take x.toNat),true,⟨R.bs,R.pos+x.toNat⟩):=if_pos ⟨hx,hr⟩;rw[e];exact get_ok p b cap A R x w h hx (by omega)
  ·have e:R.get x=(0,false,R):=if_neg (fun h=>hr h.2);rw[e]
   exact(get_short p b cap A R x w h hx (by omega)).mono fun e w' ⟨h1,k,h2⟩=>⟨h1,by subst h2;exact h.drewN k,by subst h2;exact(Kept.refl _ w).drewN k⟩
 ·have e:R.get x=(0,false,R):=if_neg (fun h=>hx h.1);rw[e]
  exact(get_width p x w ((Bool.not_eq_true _).mp hx)).mono fun e w' ⟨h1,h2⟩=>⟨h1,by subst h2;exact h,by subst h2;exact Kept.refl _ _⟩

theorem take_at (p b cap:Nat)(A:Option Addr)(R:Row)(n:Int)(w:World)(h:RowAt w p b cap A R):
  Calls Tryz.prog 239 #[.pointer (some ⟨p,0,none⟩),.int .i64 n] w fun e w'=>
   ∃ A' c',e= .returned (.tuple #[.slice A' (R.take n).1.length c',.bool (R.take n).2.1])∧NewBytes w w' A' c' (R.take n).1∧RowAt w' p b cap A (R.take n).2.2∧Kept [p] w w':=by
 by_cases hr:0≤n∧R.pos+n≤R.bs.length
 ·have e:R.take n=((R.bs.drop R.pos).take n.toNat,true,⟨R.bs,R.pos+n.toNat⟩):=if_pos hr;rw[e];refine(take_ok p b cap A R n w h hr.1 hr.2).mono fun e w' ⟨A',c',h1,h2,h3,h4⟩=>⟨A',c',?_,h2,h3,h4⟩;rw[h1,show((R.bs.drop R.pos).take n.toNat).length=n.toNat by simp;omega]
 ·have e:R.take n=([],false,R):=if_neg hr;rw[e]
  exact(take_no p b cap A R n w h (by omega)).mono fun e w' ⟨h1,k,h2⟩=>⟨none,0,h1,.inl ⟨rfl,rfl,rfl⟩,by subst h2;exact h.drewN k,by subst h2;exact(Kept.refl _ w).drewN k⟩
end Go.Proofs.YtjkmahmoclobmaaGreat.row
namespace Go.Proofs.YtjkmahmoclobmaaGreat.row
open Go.RowKit mem
theorem NewBytes.vals {w w':World}{A:Option Addr}{cap:Nat}{bs:List UInt8}(h:NewBytes w w' A cap bs){S:List Nat}(hS:∀ i∈S,i<w.heap.size):Vals w' S A (bs.map B):=by
 rcases h with⟨rfl,rfl,rfl⟩|⟨g,rfl,hg,_,ha⟩
 ·exact Vals.nil _ _ _
 ·exact ha.vals (fun hm=>by have:=hS _ hm;omega)
theorem NewBytes.nil0 {w w':World}{A:Option Addr}{cap:Nat}{bs:List UInt8}(h:NewBytes w w' A cap bs)(hA:A=none):cap=0:=by
 rcases h with⟨rfl,rfl,rfl⟩|⟨g,rfl,hg,_,ha⟩
 ·rfl
 ·cases hA

theorem made_B (n i:Nat)(h:i<n):(madeCells #[.int .u8 0] n)[i]? = some (B 0):=by
 simp [madeCells,h,Nat.mod_one]
 rfl

end Go.Proofs.YtjkmahmoclobmaaGreat.row
