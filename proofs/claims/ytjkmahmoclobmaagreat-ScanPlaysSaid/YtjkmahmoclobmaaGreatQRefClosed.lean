import Derived.Test.YtjkmahmoclobmaaGreatQRefCore
import Derived.Test.YtjkmahmoclobmaaGreatQCrcCore
import Derived.Test.YtjkmahmoclobmaaGreatQSuperMath
import Derived.Test.YtjkmahmoclobmaaGreatQFar
set_option maxRecDepth 100000
namespace Go.Proofs.YtjkmahmoclobmaaGreat.ref
open Go.RowKit mem row fill rowBack crc super
theorem RefAt.goto {w:World}{p b:Nat}{R:Row}(h:RefAt w p b R)(n:Nat)(hn:n≤R.bs.length)(q:Int)(hq:q=(n:Int)):RefAt (w.setCell ⟨p,1,none⟩ (.int .i64 q)) p b ⟨R.bs,n⟩:=by
 have hne:=h.ne_
 subst hq
 obtain⟨h1,h2,h3,h4⟩:=h
 exact⟨h1.set_ 1 _,h2.far_ hne 1 _,hn,h4⟩

theorem rbegun_any (n:Nat)(a b:UInt8)(w:World)(h2:2≤n)(hn:n≤65536):
  Calls Tryz.prog 129 #[.int .i64 n,B a,B b] w fun e w'=>∃ p g,e= .returned (.pointer (some ⟨p,0,none⟩))∧w.heap.size≤p∧w.heap.size≤g∧RefAt w' p g (rowF n [a,b])∧Kept [] w w':=by
 unfold B
 go_enter Tryz.func129,Tryz.ntmps129
 go_wp2_with fail
 refine(rnew_ok (n:Int) _ (by omega) (by omega)).mono ?_
 rintro e w1 ⟨p,g,rfl,hp,hg,hr,hk⟩
 rw[show(⟨List.replicate (n:Int).toNat 0,0⟩:Row)=rowF n []by rw[Int.toNat_natCast];exact rowF_nil n]at hr
 have hp1:=hr.lt
 have hg1:=hr.blt
 have HR:=hide hr
 have HK:=hide hk
 clear hr hk
 go_wp2_with fail
 refine(rlay_at p g _ (some ⟨w1.heap.size,0,none⟩) [a,b] 2 2 _ rfl (HR.out.kept (S:=[]) ((Kept.refl _ w1).alloc _) (by simp) (by simp)) (Vals.lit w1 [p,g] _ _ _ ([a,b].map B) rfl (by simp;omega))).mono ?_
 rintro e w2 ⟨rfl,hr,hk⟩
 rw[rowF_lay n [] [a,b] (by simpa using h2)]at*
 have HR2:=hide hr
 have HK2:=hide (HK.out.lit _ hk (by simp;omega))
 clear hr hk
 go_wp2
 go_ret
 exact⟨p,g,rfl,hp,hg,HR2.out,HK2.out⟩

theorem put_end (bs:List UInt8)(y:Int)(h:bs.length=64)(hf:fitsW (4:Nat) y=true):(Row.put ⟨bs,60⟩ 4 [y]).2=⟨bs.take 60++bytesOf 4 [y],64⟩:=by
 have e:Row.put ⟨bs,60⟩ 4 [y]=(true,⟨over bs 60 (bytesOf 4 [y]),64⟩):=if_pos ⟨rfl,by simpa using hf,by simp [h]⟩
 rw[e]
 refine Row.same ⟨?_,rfl⟩
 simp only[over,bytesOf_length]
 rw[List.drop_eq_nil_of_le (by simp [h]),List.append_nil]

theorem rclosed_any (p g:Nat)(R:Row)(w:World)(h:RefAt w p g R)(hl:R.bs.length=64):
  Calls Tryz.prog 132 #[.pointer (some ⟨p,0,none⟩)] w fun e w'=>e= .returned (.slice (some ⟨g,0,none⟩) 64 64)∧Arr w' g 64 (R.bs.take 60++sumOf (R.bs.take 60))∧Kept [p,g] w w':=by
 have c0:=h.c0
 rw[hl]at c0
 have f1:=h.f1
 have c1:=h.c1
 have hr1:=h.goto 60 (by omega) 60 rfl
 have HR1:=hide hr1
 have HK1:=hide ((Kept.refl [p,g] w).set_ (b:=p) (.inl (by simp)) 1 (.int .i64 60))
 have HL:=hide hl
 have d0:(w.setCell ⟨p,1,none⟩ (.int .i64 60)).cell? ⟨p,0,none⟩=some (.slice (some ⟨g,0,none⟩) 64 64):=by
  have:=hr1.c0
  rwa [hl]at this
 clear h hl hr1
 have hl60:(R.bs.take 60).length=60:=by rw[List.length_take,HL.out];rfl
 have H60:=hide hl60
 clear hl60
 go_enter Tryz.func132,Tryz.ntmps132
 go_wp2_with fail
 refine(rsum_any (some ⟨g,0,none⟩) 60 64 (R.bs.take 60) _ (by rw[List.map_take];exact(HR1.out.vals (by simp)).first 60) H60.out (by omega)).mono ?_
 rintro e w2 ⟨rfl,rfl⟩
 go_wp2_with fail
 refine(rone_any p g _ _ 4 (more 0 (R.bs.take 60):Int) _ HR1.out (put_end R.bs _ HL.out (sum_fits _))).mono ?_
 rintro e w3 ⟨rfl,hr3,hk3⟩
 have e0:=hr3.c0
 have hlen:(R.bs.take 60++bytesOf 4 [(more 0 (R.bs.take 60):Int)]).length=64:=by rw[List.length_append,H60.out,bytesOf_length];rfl
 dsimp only at e0
 rw[hlen]at e0
 have ha:=hr3.2.1
 dsimp only at ha
 rw[hlen]at ha
 have HA:=hide ha
 have HK3:=hide (HK1.out.trans hk3 (fun i hi=> .inl hi))
 clear hr3 hk3 ha hlen c0 c1 f1 d0
 go_wp2
 go_ret
 exact⟨rfl,HA.out,HK3.out⟩
def startB (bs:List UInt8)(n:Nat)(a b:UInt8):Bool:=decide (bs.length=n)&&(bs[0]? == some a&&bs[1]? == some b)
theorem rstarts_any (P:Option Addr)(m c n:Nat)(a b:UInt8)(bs:List UInt8)(w:World)(hv:Vals w [] P (bs.map B))(hl:bs.length=m)(hn:2≤n):
  Calls Tryz.prog 143 #[.slice P m c,.int .i64 n,B a,B b] w fun e w'=>e= .returned (.bool (startB bs n a b))∧w=w':=by
 unfold B
 by_cases hm:m=n
 ·subst hm
  obtain⟨x,hx⟩:∃ x,bs[0]? = some x:=⟨_,List.getElem?_eq_getElem (by omega)⟩
  obtain⟨y,hy⟩:∃ y,bs[1]? = some y:=⟨_,List.getElem?_eq_getElem (by omega)⟩
  obtain⟨ad,rfl,_,c0⟩:=hv 0 (B x) (by rw[List.getElem?_map,hx];rfl)
  obtain⟨ad2,h2,_,c1⟩:=hv 1 (B y) (by rw[List.getElem?_map,hy];rfl)
  cases h2
  unfold B at c0 c1
  rw[show ad.add 0=ad by unfold Addr.add;simp]at c0
  rw[add_pos ad 1 (by omega)]at c1
  have hs:startB bs m a b=(x==a&&y==b):=by
   unfold startB
   rw[hx,hy,decide_eq_true hl]
   rfl
  have hxa:((x.toNat:Int)==(a.toNat:Int))=(x==a):=by
   by_cases h:x=a
   ·subst h
    simp
   ·have:x.toNat≠a.toNat:=fun e=>h (UInt8.toNat_inj.1 e)
    rw[beq_eq_false_iff_ne.2 (show(x.toNat:Int)≠a.toNat by omega),beq_eq_false_iff_ne.2 h]
  have hyb:((y.toNat:Int)==(b.toNat:Int))=(y==b):=by
   by_cases h:y=b
   ·subst h
    simp
   ·have:y.toNat≠b.toNat:=fun e=>h (UInt8.toNat_inj.1 e)
    rw[beq_eq_false_iff_ne.2 (show(y.toNat:Int)≠b.toNat by omega),beq_eq_false_iff_ne.2 h]
  have HS:=hide hs
  have g0:(0:Int)<m:=by omega
  have g1:(1:Int)<m:=by omega
  by_cases h0:x=a
  ·rw[beq_iff_eq.2 h0]at hxa
   have hn0:=hxa
   clear hs hv hl hx hy hxa
   cases hyv:(y==b)
   ·rw[hyv]at hyb
    have HY:=hide hyv
    clear hyv
    go_enter Tryz.func143,Tryz.ntmps143
    go_wp2
    go_ret
    exact⟨by rw[HS.out,HY.out,h0];simp,rfl⟩
   ·rw[hyv]at hyb
    have HY:=hide hyv
    clear hyv
    go_enter Tryz.func143,Tryz.ntmps143
    go_wp2
    go_ret
    exact⟨by rw[HS.out,HY.out,h0];simp,rfl⟩
  ·rw[beq_eq_false_iff_ne.2 h0]at hxa
   have HX:=hide h0
   clear hs hv hl hx hy hyb h0
   go_enter Tryz.func143,Tryz.ntmps143
   go_wp2
   go_ret
   exact⟨by rw[HS.out,beq_eq_false_iff_ne.2 HX.out];rfl,rfl⟩
 ·have hs:startB bs n a b=false:=by
   unfold startB
   rw[decide_eq_false (by rw[hl];exact hm)]
   rfl
  have hmn:((m:Int)==(n:Int))=false:=beq_eq_false_iff_ne.2 (by omega)
  have HS:=hide hs
  clear hs hl hv
  go_enter Tryz.func143,Tryz.ntmps143
  go_wp2
  go_ret
  exact⟨by rw[HS.out];rfl,rfl⟩
end Go.Proofs.YtjkmahmoclobmaaGreat.ref
