import Derived.Test.YtjkmahmoclobmaaGreatYItemCore
import Derived.Test.YtjkmahmoclobmaaGreatYRefCore
import Derived.Test.YtjkmahmoclobmaaGreatYAlike
import Derived.Deep.RegionHeld3
set_option maxRecDepth 100000
namespace Go.Proofs.YtjkmahmoclobmaaGreat.item
open Go.RowKit mem base row rowBack fill ref
def Own (w:World)(base:Nat)(v:Value)(l:List It):Prop:=w.ownsRow base 84 4 v l.length (valsOf l)
theorem Own.nil (w:World)(base:Nat):Own w base (.slice none 0 0) []:=World.ownsRow_nil _ _ _ _
theorem Own.kept {w w':World}{base:Nat}{v:Value}{l:List It}{S:List Nat}(h:Own w base v l)(k:Kept S w w')(hs:∀ i∈S,i<base∨w.heap.size≤i):Own w' base v l:=by
 refine⟨h.1,?_⟩
 rcases h.2 with hn|⟨g,cap,cur,hv,hb,hg,rest⟩
 ·exact .inl hn
 ·have hlt:=Blk.lt (show Blk w g 84 cur from hg);exact .inr ⟨g,cap,cur,hv,hb,k.blk (show Blk w g 84 cur from hg) (fun hm=>by have:=hs g hm;omega),rest⟩
theorem Own.slice {w:World}{base:Nat}{v:Value}{l:List It}(h:Own w base v l):∃ A c,v= .slice A l.length c∧l.length≤c∧(A=none→c=0)∧(∀ S:List Nat,(∀ i∈S,i<base∨w.heap.size≤i)→Items w S A l)∧(∀ g,v.ownBlock=some g→base≤g):=by
 rcases h.2 with⟨rfl,h0⟩|⟨g,cap,cur,rfl,hb,hh,hn,hm,hs,ht⟩
 ·have e:l=[]:=List.eq_nil_of_length_eq_zero h0;subst e;exact⟨none,0,rfl,Nat.le_refl _,fun _=>rfl,fun S _=>Items.nil _ _ _,by simp [Value.ownBlock]⟩
 ·refine⟨_,_,rfl,hn,by simp,fun S hS=> ?_,by simp [Value.ownBlock];exact hb⟩;have hlt:g<w.heap.size:=Blk.lt (show Blk w g 84 cur from hh);refine Vals.blk 0 (show Blk w g 84 cur from hh) (fun hm=>by have:=hS _ hm;omega) (fun i v hv=> ?_)
  have hi:i<l.length*4:=by have:=(List.getElem?_eq_some_iff.1 hv).1;rw[valsOf_len]at this;omega
  rw[←ht,List.getElem?_take_of_lt hi]at hv
  simpa using hv
theorem oneCell_It (i:It):∀ u∈i.vals,u.oneCell'=true:=by
 intro u hu;simp only[It.vals,List.mem_cons,List.not_mem_nil,or_false]at hu
 rcases hu with rfl|rfl|rfl|rfl<;>rfl
theorem valsOf_snoc (l:List It)(i:It):valsOf (l++[i])=valsOf l++i.vals:=by simp [valsOf]
theorem Own.snoc {w':World}{base:Nat}{v:Value}{l:List It}{i:It}(h:w'.ownsRow base 84 4 v (l.length+1) (valsOf l++i.vals)):Own w' base v (l++[i]):=by
 unfold Own;rw[valsOf_snoc,List.length_append];exact h
theorem kept_snoc {w wr wm w1:World}{base:Nat}{v:Value}{l:List It}(h:Own wr base v l)(hb:w.heap.size≤base)(h1:Kept [] w wm)(h2:Kept v.ownBlock.toList wm w1):Kept [] w w1:=
 h1.trans h2 (fun i hi=> .inr (by
  obtain⟨_,_,_,_,_,_,hg⟩:=h.slice
  have:=hg i (by simpa using hi)
  omega))
def lenV:Value→Nat
 | .slice _ n _=>n
 | _=>0

theorem rof_len (A:Option Addr)(n c:Nat)(w:World)(h:42<n∨n≤42∧n%7≠0)(hn:n≤65536):
  Calls Tryz.prog 184 #[.slice A n c] w fun e w'=>e= .returned (.tuple #[.slice none 0 0,.int .i64 2])∧Kept [] w w':=by
 rcases h with h|⟨h2,h⟩
 ·go_enter Tryz.func184,Tryz.ntmps184;go_wp2;go_ret2;exact⟨rfl,Kept.refl _ _⟩
 ·have g1:((n:Int)%7 != 0)=true:=by rw[bne_iff_ne];omega
  clear h;go_enter Tryz.func184,Tryz.ntmps184;go_wp2;go_ret2;exact⟨rfl,Kept.refl _ _⟩

theorem rget_it (bs:List UInt8)(p x:Nat)(y:Int)(hx:isW (x:Int)=true)(h:p+x≤bs.length)(hy:numOf ((bs.drop p).take x)=y):(Row.get ⟨bs,p⟩ x).2.2=⟨bs,p+x⟩∧(Row.get ⟨bs,p⟩ x).1=y:=by
 rw[get_at_ok bs p x hx h];exact⟨rfl,hy⟩

set_option maxHeartbeats 1000000 in
theorem rof_in (A:Option Addr)(m n c:Nat)(bs:List UInt8)(w:World)(hv:Vals w [] A (bs.map B))(hl:bs.length=n)(hnc:n≤c)(hn:n=7*m)(hm:m≤6):
  Calls Tryz.prog 184 #[.slice A n c] w fun e w'=>∃ L n' c',e= .returned (.tuple #[.slice L n' c',.int .i64 (decode bs).2])∧n'=(decode bs).1.length∧(∀ S:List Nat,(∀ i∈S,i<w.heap.size)→Items w' S L (decode bs).1)∧Kept [] w w':=by
 have HV:=hide hv;have HL:=hide hl
 have g1:((n:Int)%7 != 0)=false:=by rw[bne_eq_false_iff_eq];omega
 have g3:¬(42:Int)<n:=by omega
 obtain⟨its,hits⟩:∃ its,itemsOf bs=its:=⟨_,rfl⟩
 have hil:its.length=m:=by rw[←hits,itemsOf_len,hl,hn];omega
 have HI:=hide hits;have HIL:=hide hil;have HMN:=hide hn
 have hn42:n≤42:=by omega
 clear hv hl hits hil hn;go_enter Tryz.func184,Tryz.ntmps184;go_wp2_with fail;refine(rfrom_ok A n c bs _ HL.out hnc HV.out (by omega)).mono ?_;rintro e w1 ⟨p,b,rfl,hp,hb,hr,hk⟩;have hp1:=hr.lt;have hb1:=hr.blt;have HR1:=hide hr;have HK1:=hide hk;have HP:=hide hp;have HB:=hide hb;have hs1:=hk.size;clear hr hk hp hb;go_wp2
 go_loopw [5,6] (fun v u wr=>∃ k:Nat,k≤m∧Hid (RefAt wr p b ⟨bs,7*k⟩)∧Hid (Own wr w1.heap.size v (its.take k))∧Hid (allMay (its.take k))∧Hid (Kept [] w wr)∧w1.heap.size≤wr.heap.size) (fun v u wr=>m-lenV v)
 case atStart=>exact⟨0,by omega,HR1,hide (Own.nil _ _),hide (by simp [allMay]),HK1,Nat.le_refl _⟩
 case round=>
  obtain⟨k,hk,HR2,HO2,HM2,HK2,hsz⟩:=hrel;obtain⟨L2,cc2,hV,_⟩:=HO2.out.slice
  have hlk:(its.take k).length=k:=by rw[List.length_take,HIL.out];omega
  rw[hlk]at hV;subst hV;have HLK:=hide hlk;clear hlk;have c1:=HR2.out.c1;dsimp only at c1
  by_cases hlt:k<m
  ·obtain⟨i,hi⟩:∃ i,its[k]? = some i:=⟨_,List.getElem?_eq_getElem (by rw[HIL.out];exact hlt)⟩
   have hia:itAt bs (7*k)=i:=by
    have:=itemsOf_at bs k (by rw[HL.out,HMN.out];omega)
    rw[HI.out,hi]at this
    exact(Option.some.inj this).symm
   have HIK:=hide hi;have HLT:=hide hlt
   have hpos:7*k+7≤bs.length:=by rw[HL.out,HMN.out];omega
   have hlt2:(7*(k:Int))<n:=by have:=HMN.out;omega
   have e1:numOf ((bs.drop (7*k)).take 1)=i.k:=by rw[←hia];rfl
   have e2:numOf ((bs.drop (7*k+1)).take 1)=i.b:=by rw[←hia];rfl
   have e3:numOf ((bs.drop (7*k+2)).take 1)=i.c:=by rw[←hia];rfl
   have e4:numOf ((bs.drop (7*k+3)).take 4)=i.v:=by rw[←hia];rfl
   have G1:=hide (rget_it bs (7*k) 1 i.k rfl (by omega) e1);have G2:=hide (rget_it bs (7*k+1) 1 i.b rfl (by omega) e2);have G3:=hide (rget_it bs (7*k+1+1) 1 i.c rfl (by omega) e3);have G4:=hide (rget_it bs (7*k+1+1+1) 4 i.v rfl (by omega) e4);clear hi hia hpos e1 e2 e3 e4;obtain⟨q,hq⟩:∃ q,wr.heap.size=q:=⟨_,rfl⟩;have hb0:Blk (wr.alloc (.cells It.zero.cells 84)) wr.heap.size 84 It.zero.cells:=Blk.new wr _ _;have hk0:=(Kept.refl [] wr).alloc (.cells It.zero.cells 84);rw[hq]at hb0;have HB3:=hide hb0;have HR3:=hide (HR2.out.kept hk0 (by simp) (by simp));have HK3:Hid (Kept [p,q] wr (wr.alloc (.cells It.zero.cells 84))):=hide ((Kept.refl [p,q] wr).alloc _)
   have hpq:p<q:=by have:=HR2.out.lt;omega
   have hbq:b<q:=by have:=HR2.out.blt;omega
   have hbase:w1.heap.size≤q:=by omega
   have hs3:=hk0.size;clear hb0 hk0;go_wp2_with fail;refine(rnum_any p b _ _ 1 _ _ HR3.out G1.out.1 G1.out.2).mono ?_;rintro e x0 ⟨rfl,hr,hk0⟩;have hb0:Blk x0 q 84 (It.cells ⟨0,0,0,0⟩):=hk0.blk HB3.out (by simp;omega);have f0:=hb0.frozen 0;have d0:=(It.cell_at hb0).1;have HB4:Hid (Blk (x0.setCell ⟨q,0,none⟩ (.int .i64 i.k)) q 84 (It.cells ⟨i.k,0,0,0⟩)):=hide (hb0.set_ 0 _);have HR4:=hide (hr.kept ((Kept.refl [q] x0).set_ (b:=q) (.inl (by simp)) 0 (.int .i64 i.k)) (by simp;omega) (by simp;omega));have HK4:=hide ((HK3.out.trans hk0 (by simp)).set_ (b:=q) (.inl (by simp)) 0 (.int .i64 i.k));clear hr hk0 hb0 HB3 HR3 HK3;go_wp2_with fail;refine(rnum_any p b _ _ 1 _ _ HR4.out G2.out.1 G2.out.2).mono ?_;rintro e x1 ⟨rfl,hr,hk1⟩;have hb1:Blk x1 q 84 (It.cells ⟨i.k,0,0,0⟩):=hk1.blk HB4.out (by simp;omega);have f0:=hb1.frozen 1;have d0:=(It.cell_at hb1).2.1;have HB5:Hid (Blk (x1.setCell ⟨q,1,none⟩ (.int .i64 i.b)) q 84 (It.cells ⟨i.k,i.b,0,0⟩)):=hide (hb1.set_ 1 _);have HR5:=hide (hr.kept ((Kept.refl [q] x1).set_ (b:=q) (.inl (by simp)) 1 (.int .i64 i.b)) (by simp;omega) (by simp;omega));have HK5:=hide ((HK4.out.trans hk1 (by simp)).set_ (b:=q) (.inl (by simp)) 1 (.int .i64 i.b));clear hr hk1 hb1 HB4 HR4 HK4;go_wp2_with fail;refine(rnum_any p b _ _ 1 _ _ HR5.out G3.out.1 G3.out.2).mono ?_;rintro e x2 ⟨rfl,hr,hk2⟩;have hb2:Blk x2 q 84 (It.cells ⟨i.k,i.b,0,0⟩):=hk2.blk HB5.out (by simp;omega);have f0:=hb2.frozen 2;have d0:=(It.cell_at hb2).2.2.1;have HB6:Hid (Blk (x2.setCell ⟨q,2,none⟩ (.int .i64 i.c)) q 84 (It.cells ⟨i.k,i.b,i.c,0⟩)):=hide (hb2.set_ 2 _)
   have HR6:=hide (hr.kept ((Kept.refl [q] x2).set_ (b:=q) (.inl (by simp)) 2 (.int .i64 i.c)) (by simp;omega) (by simp;omega));have HK6:=hide ((HK5.out.trans hk2 (by simp)).set_ (b:=q) (.inl (by simp)) 2 (.int .i64 i.c));clear hr hk2 hb2 HB5 HR5 HK5;go_wp2_with fail;refine(rnum_any p b _ _ 4 _ _ HR6.out G4.out.1 G4.out.2).mono ?_;rintro e x3 ⟨rfl,hr,hk3⟩;have hb3:Blk x3 q 84 (It.cells ⟨i.k,i.b,i.c,0⟩):=hk3.blk HB6.out (by simp;omega);have f0:=hb3.frozen 3;obtain⟨d0,d1,d2,d3⟩:=It.cell_at hb3;have HB7:Hid (Blk (x3.setCell ⟨q,3,none⟩ (.int .i64 i.v)) q 84 (It.cells ⟨i.k,i.b,i.c,i.v⟩)):=hide (hb3.set_ 3 _);have HR7:=hide (hr.kept ((Kept.refl [q] x3).set_ (b:=q) (.inl (by simp)) 3 (.int .i64 i.v)) (by simp;omega) (by simp;omega));have HK7:=hide ((HK6.out.trans hk3 (by simp)).set_ (b:=q) (.inl (by simp)) 3 (.int .i64 i.v));clear hr hk3 hb3 HB6 HR6 HK6;go_wp2_with fail;generalize x3.setCell ⟨q,3,none⟩ (.int .i64 i.v)=x4 at HB7 HR7 HK7 ⊢;clear f0 d0 d1 d2 d3;refine(rmay_any i _).mono ?_;rintro e x5 ⟨rfl,hk5⟩;have HB8:=hide (hk5.blk HB7.out (by simp));have HR8:=hide (HR7.out.kept hk5 (by simp) (by simp));have HK8:=hide (HK7.out.trans hk5 (by simp));clear hk5 HB7 HR7 HK7;have hs8:=HK8.out.size;have HO8:=hide (HO2.out.kept HK8.out (by simp;omega));have HK9:=hide (HK2.out.trans HK8.out (by have:=HP.out;simp;omega))
   by_cases hm:i.may=true
   ·rw[hm]
    have hts:its.take (k+1)=its.take k++[i]:=by rw[List.take_add_one,HIK.out];rfl
    have HM:=hide (allMay_snoc _ i HM2.out hm);have HT:=hide hts;clear hm hts;obtain⟨d0,d1,d2,d3⟩:=It.cell_at HB8.out
    have HO9:Hid (∀ o:Obj,(x5.alloc o).ownsRow w1.heap.size 84 4 (.slice L2 k cc2) k (valsOf (its.take k))):=hide (fun o=>by
     have:=HO8.out.kept ((Kept.refl [] x5).alloc o) (by simp)
     unfold Own at this;rw[HLK.out]at this
     exact this)
    go_wp2_with (at_builtin;refine wpList_append_vals rfl (.tmp 40) (.tmp 42) 105 rfl w1.heap.size 84 It.zero.val 4 32 Tryz.underlying105 item_info rfl (by omega) (.slice L2 k cc2) k (valsOf (its.take k)) rfl (HO9.out _) [] _ 1 1 i.vals rfl rfl (Vals.new _ [] _ _ (by simp)) (oneCell_It i) (by simp only[maxLen];omega) (by omega) (by simp;omega) ?_;intro v1 w5 hown1 hk1 hat1)
    have hO:Own w5 w1.heap.size v1 (its.take (k+1)):=by
     rw[HT.out];refine Own.snoc ?_;rw[HLK.out];exact hown1
    have hK:=kept_snoc HO8.out hs1 (HK9.out.alloc _) hk1;obtain⟨_,_,_,_,_,_,hg8⟩:=HO8.out.slice
    have hne:∀ z,z<w1.heap.size→z∉(Value.slice L2 k cc2).ownBlock.toList:=fun z hz hm=>by
     have:=hg8 z (by simpa using hm)
     omega
    have hR:=(HR8.out.kept ((Kept.refl [] x5).alloc _) (by simp) (by simp)).kept hk1 (hne p hp1) (hne b hb1);obtain⟨A9,c9,hv9,_⟩:=hO.slice
    have hl9:(its.take (k+1)).length=k+1:=by rw[List.length_take,HIL.out];omega
    rw[hl9]at hv9;have hs9:=hk1.size;simp at hs9;refine⟨⟨k+1,by omega,hide hR,hide hO,hide (by rw[HT.out];exact HM.out),hide hK,by omega⟩,?_⟩;rw[hv9]
    simp [lenV]
    omega
   ·have hm':=(Bool.not_eq_true _).mp hm;rw[hm']
    have HE:Hid (decode bs=([],2)):=hide (if_neg (fun hn=>by
     have:=hn.2 i (by rw[HI.out];exact List.mem_of_getElem? HIK.out)
     exact hm this))
    clear hm hm';go_wp2;go_ret2;rw[HE.out];exact⟨none,0,0,rfl,rfl,fun S _=>Items.nil _ _ _,HK9.out⟩
  ·obtain rfl:k=m:=by omega
   have hlt2:¬(7*(k:Int))<n:=by have:=HMN.out;omega
   have hfull:its.take k=its:=List.take_of_length_le (by rw[HIL.out];exact Nat.le_refl _);rw[hfull]at HM2 HO2
   have HE:Hid (decode bs=(its,0)):=hide (by
    unfold decode
    rw[HI.out,if_pos ⟨⟨by rw[HL.out,HMN.out];omega,by rw[HL.out];exact hn42⟩,HM2.out⟩])
   clear hfull;go_wp2;go_ret2;rw[HE.out];obtain⟨A9,c9,hv9,_,_,hit,_⟩:=HO2.out.slice;cases hv9;exact⟨_,_,⟨_,rfl⟩,HIL.out.symm,fun S hS=>hit S (fun i hi=> .inl (by have:=hS i hi;omega)),HK2.out⟩

theorem rof_far (A:Option Addr)(n c:Nat)(bs:List UInt8)(w:World)(hv:Vals w [] A (bs.map B))(hl:bs.length=n)(hnc:n≤c)(hn:n≤65536):
  Calls Tryz.prog 184 #[.slice A n c] w fun e w'=>∃ L n' c',e= .returned (.tuple #[.slice L n' c',.int .i64 (decode bs).2])∧n'=(decode bs).1.length∧(∀ S:List Nat,(∀ i∈S,i<w.heap.size)→Items w' S L (decode bs).1)∧Kept [] w w':=by
 by_cases h7:n%7=0
 ·by_cases h42:n≤42
  ·exact rof_in A (n/7) n c bs w hv hl hnc (by omega) (by omega)
  ·have e:decode bs=([],2):=if_neg (fun h=>by have:=h.1.2;omega);rw[e]
   exact(rof_len A n c w (.inl (by omega)) hn).mono fun _ _ ⟨h1,h3⟩=>⟨none,0,0,h1,rfl,fun S _=>Items.nil _ _ _,h3⟩
 ·have e:decode bs=([],2):=decode_odd bs (by rw[hl];exact h7);rw[e]
  by_cases h42:n≤42
  ·exact(rof_len A n c w (.inr ⟨h42,h7⟩) hn).mono fun _ _ ⟨h1,h3⟩=>⟨none,0,0,h1,rfl,fun S _=>Items.nil _ _ _,h3⟩
  ·exact(rof_len A n c w (.inl (by omega)) hn).mono fun _ _ ⟨h1,h3⟩=>⟨none,0,0,h1,rfl,fun S _=>Items.nil _ _ _,h3⟩
end Go.Proofs.YtjkmahmoclobmaaGreat.item
namespace Go.Proofs.YtjkmahmoclobmaaGreat.base
open Go.RowKit mem
theorem next_two {P:Program}{md:Region.Mode}{ops:Array Oper}{Q:Exit→Act→World→Prop}{S:World→Prop}{fuel:Nat}{listed:Array Bool}{a:Act}{w:World}{i j:Nat}{o o':Oper}(hr:Region.ready md ops listed=[i,j])(ho:ops[i]? = some o)(hw:Region.wanted o (yielded ops a.tmps)=true)
  (ho':ops[j]? = some o') (hw':Region.wanted o' (yielded ops a.tmps)=true)
  (h:∀ K:Act→World→Prop,(∀ a w,S w→wpAnyH P md ops Q S fuel (listed.setIfInBounds i true) a w→K a w)→Oper.wp P o a w K Q)
  (h':∀ K:Act→World→Prop,(∀ a w,S w→wpAnyH P md ops Q S fuel (listed.setIfInBounds j true) a w→K a w)→Oper.wp P o' a w K Q):wpAnyH P md ops Q S (fuel+1) listed a w:=
 wpAnyH_all hr (by simp) (fun k hk=>by
  simp at hk
  rcases hk with rfl|rfl
  ·unfold wpOp;simp only[ho,hw,if_true];exact .inl (h _ (fun _ _ h1 h2=>⟨h1,h2⟩))
  ·unfold wpOp;simp only[ho',hw',if_true]
   exact .inl (h' _ (fun _ _ h1 h2=>⟨h1,h2⟩)))
theorem next_three {P:Program}{md:Region.Mode}{ops:Array Oper}{Q:Exit→Act→World→Prop}{S:World→Prop}{fuel:Nat}{listed:Array Bool}{a:Act}{w:World}{i j l:Nat}{o o' o'':Oper}(hr:Region.ready md ops listed=[i,j,l])(ho:ops[i]? = some o)(hw:Region.wanted o (yielded ops a.tmps)=true)
  (ho':ops[j]? = some o') (hw':Region.wanted o' (yielded ops a.tmps)=true) (ho'':ops[l]? = some o'') (hw'':Region.wanted o'' (yielded ops a.tmps)=true)
  (h:∀ K:Act→World→Prop,(∀ a w,S w→wpAnyH P md ops Q S fuel (listed.setIfInBounds i true) a w→K a w)→Oper.wp P o a w K Q)
  (h':∀ K:Act→World→Prop,(∀ a w,S w→wpAnyH P md ops Q S fuel (listed.setIfInBounds j true) a w→K a w)→Oper.wp P o' a w K Q)
  (h'':∀ K:Act→World→Prop,(∀ a w,S w→wpAnyH P md ops Q S fuel (listed.setIfInBounds l true) a w→K a w)→Oper.wp P o'' a w K Q):wpAnyH P md ops Q S (fuel+1) listed a w:=
 wpAnyH_all hr (by simp) (fun k hk=>by
  simp at hk
  rcases hk with rfl|rfl|rfl
  ·unfold wpOp;simp only[ho,hw,if_true];exact .inl (h _ (fun _ _ h1 h2=>⟨h1,h2⟩))
  ·unfold wpOp;simp only[ho',hw',if_true];exact .inl (h' _ (fun _ _ h1 h2=>⟨h1,h2⟩))
  ·unfold wpOp;simp only[ho'',hw'',if_true]
   exact .inl (h'' _ (fun _ _ h1 h2=>⟨h1,h2⟩)))
end Go.Proofs.YtjkmahmoclobmaaGreat.base
