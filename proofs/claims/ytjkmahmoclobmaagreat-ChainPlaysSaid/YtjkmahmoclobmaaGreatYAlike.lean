import Derived.Test.YtjkmahmoclobmaaGreatRows
import Derived.Test.YtjkmahmoclobmaaGreatYMemOps
import Derived.BigQuiet
import Derived.ChangeAlike
import Derived.Deep.Fields
import Derived.Deep.OwnRows
import Derived.Deep.QuietTactic
import Derived.Deep.RegionHeld3
import Derived.Deep.RegionLaw
import Derived.Deep.Slices
import Derived.IntWalk
import Derived.RegionTactic
import Derived.WalkKit
import Derived.WalkLawsBesides
import Derived.WalkSpells
import Derived.StillTailTactics
namespace Go.Proofs.YtjkmahmoclobmaaGreat.base
open Go.RowKit mem
theorem vals_one (w:World)(S:List Nat)(n:Int)(t:TypeId)(hS:∀ i∈S,i<w.heap.size):Vals (w.alloc (.cells #[.int .i64 n] t)) S (some ⟨w.heap.size,0,none⟩) ([n].map I):=
 Vals.blk 0 (Blk.new w t #[.int .i64 n]) (fun hm=>by have:=hS _ hm;omega) (fun i v hv=>by
  rcases i with _|i
  ·simpa [I]using hv
  ·simp at hv)

theorem made_B (n i:Nat)(h:i<n):(madeCells #[.int .u8 0] n)[i]? = some (B 0):=by
 simp [madeCells,h,Nat.mod_one]
 rfl
theorem own_slice {w:World}{base:Nat}{e:TypeId}{v:Value}{n:Nat}{xs:List Value}(h:w.ownsRow base e 1 v n xs):∃ A c,v= .slice A n c∧n≤c∧(A=none→c=0)∧(∀ S:List Nat,(∀ i∈S,i<base∨w.heap.size≤i)→Vals w S A xs)∧(∀ g,v.ownBlock=some g→base≤g):=by
 rcases h.2 with⟨rfl,rfl⟩|⟨g,cap,cur,rfl,hb,hh,hn,hm,hs,ht⟩
 ·have:xs=[]:=List.eq_nil_of_length_eq_zero (by simpa using h.1)
  subst this;exact⟨none,0,rfl,Nat.le_refl _,fun _=>rfl,fun S _=>Vals.nil _ _ _,by simp [Value.ownBlock]⟩
 ·refine⟨_,_,rfl,hn,by simp,fun S hS=> ?_,by simp [Value.ownBlock];exact hb⟩;have hlt:g<w.heap.size:=Blk.lt (show Blk w g e cur from hh);refine Vals.blk 0 (show Blk w g e cur from hh) (fun hm=>by have:=hS _ hm;omega) (fun i v hv=> ?_)
  have hi:i<n:=by have:=(List.getElem?_eq_some_iff.1 hv).1;have:=h.1;omega
  rw[←ht,List.getElem?_take_of_lt (by omega)]at hv
  simpa using hv

theorem mod_any (x n:Int)(w:World)(hn:0<n)(hn2:n≤4611686018427387904):
  Calls Tryz.prog 65 #[.int .i64 x,.int .i64 n] w fun e w'=>e= .returned (.int .i64 (x%n))∧w=w':=by
 have hne:(n==0)=false:=beq_eq_false_iff_ne.2 (by omega);have h1:=Int.tmod_lt_of_pos x hn;have h2:=Int.lt_tmod_of_pos x hn
 have h3:Hid (x%n=if x.tmod n<0 then x.tmod n+n else x.tmod n):=by
  unfold Hid;have h4:x=n*x.tdiv n+x.tmod n:=(Int.mul_tdiv_add_tmod x n).symm
  have h5:x%n=x.tmod n%n:=by
   conv=>lhs;rw[h4]
   rw[Int.mul_add_emod_self_left]
  split
  ·rw[h5,←Int.add_emod_right,Int.emod_eq_of_lt (by omega) (by omega)]
  ·rw[h5,Int.emod_eq_of_lt (by omega) (by omega)]
 by_cases hk:x.tmod n<0
 ·have HK:=hide (show(n+x.tmod n=x%n)by rw[h3.out,if_pos hk];omega);have HK2:=hide (show(x.tmod n+n=x%n)by rw[h3.out,if_pos hk]);clear h3;go_enter Tryz.func65,Tryz.ntmps65;go_wp2;go_ret;exact⟨congrArg (fun q=>Ending.returned (.int .i64 q)) HK2.out,rfl⟩
 ·have HK2:=hide (show(x.tmod n=x%n)by rw[h3.out,if_neg hk])
  have hk':0≤x.tmod n:=by omega
  clear h3;go_enter Tryz.func65,Tryz.ntmps65;go_wp2;go_ret;exact⟨congrArg (fun q=>Ending.returned (.int .i64 q)) HK2.out,rfl⟩

theorem round_any (x n:Int)(w:World)(hn:0<n)(hn2:n≤4611686018427387904):
  Calls Tryz.prog 12 #[.int .i64 x,.int .i64 n] w fun e w'=>e= .returned (.int .i64 (x%n))∧w=w':=by
 have H1:=hide hn;have H2:=hide hn2;clear hn hn2;go_enter Tryz.func12,Tryz.ntmps12;go_wp2_with fail;refine(mod_any x n _ H1.out H2.out).mono ?_;rintro e w' ⟨rfl,rfl⟩;go_wp2;go_ret;exact⟨rfl,rfl⟩

theorem cut_le (m i:Nat)(bs:List UInt8):0+((bs.drop i).take m).length≤(List.replicate m (0:UInt8)).length:=by simp;omega
theorem size8:(Tryz.prog.info? 5).map (·.size)=some 1:=by kernel_rfl
theorem part_any (P:Option Addr)(n c:Nat)(i j:Int)(bs:List UInt8)(w:World)(hv:Vals w [] P (bs.map B))(hl:bs.length=n)(hnc:n≤c)(hi:0≤i)(hij:i≤j)(hj:j≤n)(hn:n≤140737488355328):
  Calls Tryz.prog 72 #[.slice P n c,.int .i64 i,.int .i64 j] w fun e w'=>
   ∃ g,e= .returned (.slice (some ⟨g,0,none⟩) (j-i).toNat (j-i).toNat)∧w.heap.size≤g∧Arr w' g (j-i).toNat ((bs.drop i.toNat).take (j-i).toNat)∧Kept [] w w':=by
 obtain⟨i,rfl⟩:=Int.eq_ofNat_of_zero_le hi;obtain⟨m,hm⟩:∃ m:Nat,j=i+m:=⟨(j-i).toNat,by omega⟩;subst hm;rw[show((i:Int)+m-i).toNat=m by omega,Int.toNat_natCast];have HV:=hide hv;have HL:=hide hl;clear hv hl;have hmk:=run_make_row' (P:=Tryz.prog) 41 5 (.int .u8 0) 1 (by kernel_rfl) (by kernel_rfl) rfl .i64 .i64 m (by omega) (by omega)
 have hs:((i:Int)+m-i)=m:=by omega
 have hmade:Arr (w.alloc (.cells (madeCells #[.int .u8 0] m) 5)) w.heap.size m (List.replicate m 0):=
  ⟨_,Blk.new _ _ _,by rw[size_madeCells],by simp,fun k x hx=>by
   rw[List.getElem?_replicate]at hx
   split at hx
   ·rename_i hk
    injection hx with hx;subst hx;exact made_B m k hk
   ·cases hx⟩
 have HM:=hide hmade;have HV1:Hid (Vals (w.alloc (.cells (madeCells #[.int .u8 0] m) 5)) [] P (bs.map B)):=hide (HV.out.kept ((Kept.refl [] w).alloc _) (by simp));have hxl:Hid (((bs.drop i).take m).length=m):=hide (by have:=HL.out;simp;omega);clear hmade HV;have HC:Hid (Vals (w.alloc (.cells (madeCells #[.int .u8 0] m) 5)) [] (P.map (fun x=>x.add i)) (((bs.drop i).take m).map B)):=hide (by have:=HV1.out.cut i m;simpa using this);have HN:Hid (((bs.drop i).take m).length=Nat.min m m):=hide (by rw[hxl.out];exact(Nat.min_self m).symm)
 by_cases hc:c=i
 ·have H0:Hid (((bs.drop i).take m)=[]):=hide (List.eq_nil_of_length_eq_zero (by rw[hxl.out];omega));have HV0:Hid (Vals (w.alloc (.cells (madeCells #[.int .u8 0] m) 5)) [] P (((bs.drop i).take m).map B)):=hide (by rw[H0.out];exact Vals.nil _ _ _);go_enter Tryz.func72,Tryz.ntmps72
  go_wp2_with (
   with_reducible refine wpList_copy_bytes (o:=⟨some 17,_,_,_,_,_⟩) ?_ (.tmp 12) (.tmp 16) 41 41 ?_ Tryz.underlying41 size8 (some ⟨w.heap.size,0,none⟩) P m m m 0 ?_ ?_ ((bs.drop i).take m) HN.out [] HV0.out w.heap.size 0 m (List.replicate m 0) (fun _=>⟨rfl,HM.out,cut_le m i bs⟩) ?_
   ·rfl
   ·rfl
   ·rfl
   ·exact congrArg (fun q=>Value.slice P q 0) (Nat.add_sub_cancel_left (n:=i) (m:=m))
   intro w2 hk2 ha2 hn2)
  go_ret;refine⟨_,rfl,Nat.le_refl _,?_,?_⟩
  ·have:=ha2 HM.out
   rw[over_all _ _ (by rw[hxl.out];simp)]at this;exact this
  ·exact((Kept.refl [] w).alloc _).trans hk2 (by simp)
 ·go_enter Tryz.func72,Tryz.ntmps72
  go_wp2_with (
   with_reducible refine wpList_copy_bytes (o:=⟨some 17,_,_,_,_,_⟩) ?_ (.tmp 12) (.tmp 16) 41 41 ?_ Tryz.underlying41 size8 (some ⟨w.heap.size,0,none⟩) (P.map (fun x=>x.add i)) m m m (c-i) ?_ ?_ ((bs.drop i).take m) HN.out [] HC.out w.heap.size 0 m (List.replicate m 0) (fun _=>⟨rfl,HM.out,cut_le m i bs⟩) ?_
   ·rfl
   ·rfl
   ·rfl
   ·exact congrArg (fun q=>Value.slice (P.map (fun x=>x.add i)) q (c-i)) (Nat.add_sub_cancel_left (n:=i) (m:=m))
   intro w2 hk2 ha2 hn2)
  go_ret;refine⟨_,rfl,Nat.le_refl _,?_,?_⟩
  ·have:=ha2 HM.out
   rw[over_all _ _ (by rw[hxl.out];simp)]at this;exact this
  ·exact((Kept.refl [] w).alloc _).trans hk2 (by simp)
end Go.Proofs.YtjkmahmoclobmaaGreat.base
namespace Go.Proofs.YtjkmahmoclobmaaGreat.base
open Go.RowKit mem
theorem within_any (n a b:Int)(w:World):
  Calls Tryz.prog 69 #[.int .i64 n,.int .i64 a,.int .i64 b] w fun e w'=>e= .returned (.bool (decide (a≤n)&&decide (n≤b)))∧w=w':=by
 by_cases h:a≤n
 ·go_enter Tryz.func69,Tryz.ntmps69;go_wp2;go_ret;exact⟨by simp [h],rfl⟩
 ·go_enter Tryz.func69,Tryz.ntmps69;go_wp2;go_ret;exact⟨by rw[show decide (a≤n)=false from decide_eq_false (by omega)];rfl,rfl⟩
theorem within_yes (n a b:Int)(w:World)(h:a≤n∧n≤b):
  Calls Tryz.prog 69 #[.int .i64 n,.int .i64 a,.int .i64 b] w fun e w'=>e= .returned (.bool true)∧w=w':=
 (within_any n a b w).mono fun e w' ⟨he,hw⟩=>⟨by rw[he];simp [h.1,h.2],hw⟩
theorem within_no (n a b:Int)(w:World)(h:¬(a≤n∧n≤b)):
  Calls Tryz.prog 69 #[.int .i64 n,.int .i64 a,.int .i64 b] w fun e w'=>e= .returned (.bool false)∧w=w':=
 (within_any n a b w).mono fun e w' ⟨he,hw⟩=>⟨by rw[he];congr 2;rw[←Bool.not_eq_true,Bool.and_eq_true,decide_eq_true_iff,decide_eq_true_iff];exact h,hw⟩
theorem equal_any (A1 A2:Option Addr)(c1 c2:Nat)(xs ys:List UInt8)(w:World)(h1:Vals w [] A1 (xs.map B))(h2:Vals w [] A2 (ys.map B))(hm:xs.length≤140737488355328):
  Calls Tryz.prog 115 #[.slice A1 xs.length c1,.slice A2 ys.length c2] w fun e w'=>e= .returned (.bool (decide (xs=ys)))∧∃ k,w'=w.drewN k:=by
 have H1:=hide h1;have H2:=hide h2;clear h1 h2
 by_cases hl:xs.length=ys.length
 ·have hl1:((xs.length:Int) != (ys.length:Int))=false:=by rw[bne_eq_false_iff_eq];omega
  have HL:=hide hl;clear hl;go_enter Tryz.func115,Tryz.ntmps115;go_wp2
  go_loopw [5] (fun i wr=>∃ j:Nat,j≤xs.length∧i= .int .i64 j∧Hid (xs.take j=ys.take j)∧∃ d,wr=w.drewN d) (fun i wr=>xs.length-(intOf i).toNat)
  case atStart=>exact⟨0,Nat.zero_le _,rfl,hide rfl,0,rfl⟩
  case round=>
   obtain⟨j,hj,rfl,heq,d,rfl⟩:=hrel
   by_cases hlt:j<xs.length
   ·have hlt2:j<ys.length:=by have:=HL.out;omega
    obtain⟨ad1,rfl,_,hx⟩:=H1.out j (B xs[j]) (by simp [hlt]);obtain⟨ad2,rfl,_,hy⟩:=H2.out j (B ys[j]) (by simp [hlt2]);have hn1:=hide (List.take_succ_eq_append_getElem hlt);have hn2:=hide (List.take_succ_eq_append_getElem hlt2);have hat1:=hide (List.getElem?_eq_getElem hlt);have hat2:=hide (List.getElem?_eq_getElem hlt2);unfold B at hx hy;generalize xs[j]=x at*;generalize ys[j]=y at*
    by_cases hxy:x=y
    ·subst hxy
     have ht:((x.toNat:Int) != (x.toNat:Int))=false:=by simp
     go_wp2
     go_quiet (fail)
     go_wp2;go_roundw
     case rel=>exact⟨j+1,by omega,by go_num,hide (by rw[hn1.out,hn2.out,heq.out]),_,rfl⟩
     case measure=>simp [intOf];omega
    ·have ht:((x.toNat:Int) != (y.toNat:Int))=true:=by rw[bne_iff_ne];exact fun e=>hxy (UInt8.toNat_inj.1 (by omega))
     have HNEQ:Hid (decide (xs=ys)=false):=hide (decide_eq_false (fun e=>hxy (by
      have a:=hat1.out;have b:=hat2.out;rw[e,b]at a;injection a with a
      exact a.symm)))
     clear hxy;go_wp2
     go_quiet (fail)
     go_wp2;go_ret;exact⟨by rw[HNEQ.out];rfl,_,World.drewN_drewN _ _ _⟩
   ·obtain rfl:j=xs.length:=by omega
    have HE:Hid (decide (xs=ys)=true):=hide (decide_eq_true (by
     have:=heq.out
     rw[List.take_length,List.take_of_length_le (by have:=HL.out;omega)]at this
     exact this))
    go_wp2;go_ret;exact⟨by rw[HE.out];rfl,_,rfl⟩
 ·have hl1:((xs.length:Int) != (ys.length:Int))=true:=by rw[bne_iff_ne];omega
  have HE:Hid (decide (xs=ys)=false):=hide (decide_eq_false (fun e=>hl (by rw[e])));clear hl;go_enter Tryz.func115,Tryz.ntmps115;go_wp2;go_ret;exact⟨by rw[HE.out];rfl,0,rfl⟩

theorem bytes_any (A1 A2:Option Addr)(n1 n2 c1 c2:Nat)(xs ys:List UInt8)(w:World)(hn1:xs.length=n1)(hn2:ys.length=n2)(h1:Vals w [] A1 (xs.map B))(h2:Vals w [] A2 (ys.map B))(hm:n1≤140737488355328):
  Calls Tryz.prog 47 #[.slice A1 n1 c1,.slice A2 n2 c2] w fun e w'=>e= .returned (.bool (decide (xs=ys)))∧∃ k,w'=w.drewN k:=by
 subst hn1 hn2;have H1:=hide h1;have H2:=hide h2;clear h1 h2;go_enter Tryz.func47,Tryz.ntmps47;go_wp2_with fail;refine(equal_any A1 A2 c1 c2 xs ys _ H1.out H2.out hm).mono ?_;rintro e w' ⟨rfl,k,rfl⟩;go_wp2;go_ret;exact⟨rfl,_,rfl⟩

end Go.Proofs.YtjkmahmoclobmaaGreat.base
