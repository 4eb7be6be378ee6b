import Derived.Test.YtjkmahmoclobmaaGreatQScanRSeg
import Derived.Test.YtjkmahmoclobmaaGreatQRecordAlike
namespace Go.Proofs.YtjkmahmoclobmaaGreat.sc
set_option linter.unusedSimpArgs false
set_option linter.unusedVariables false
open Go.RowKit mem base disk owns
open record (Rc RcIn RcAt put5 put5_kept cell5)
open item (It Items)
theorem FndIn.at_ {w:World}{S:List Nat}:∀ {l:List (Ps×Rc)} {xs:List Value} {j:Nat} {pk:Ps} {R:Rc},FndIn w S l xs→l[j]? = some (pk,R)→∃ L m c P k d,RcIn w S L m P k R∧xs[j*6]? = some (.int .i64 pk.o)∧xs[j*6+1]? = some (.int .i64 R.m)∧xs[j*6+2]? = some (.int .i64 R.l)∧xs[j*6+3]? = some (.int .i64 R.p)∧xs[j*6+4]? = some (.slice L m c)∧xs[j*6+5]? = some (.slice P k d)
 | [],_,j,_,_,_,hj=>by simp at hj
 | (pk',R')::l,_,0,pk,R,⟨L,m,c,P,k,d,rest,h1,h2,h3⟩,hj=>by
  simp at hj
  obtain⟨rfl,rfl⟩:=hj
  subst h1
  exact⟨L,m,c,P,k,d,h2,rfl,rfl,rfl,rfl,rfl,rfl⟩
 | (pk',R')::l,_,j+1,pk,R,⟨L,m,c,P,k,d,rest,h1,h2,h3⟩,hj=>by
  subst h1
  obtain⟨L',m',c',P',k',d',i0,i1,i2,i3,i4,i5,i6⟩:=FndIn.at_ h3 (by simpa using hj)
  have e:(j+1)*6=j*6+6:=by omega
  rw[e]
  exact⟨L',m',c',P',k',d',i0,i1,i2,i3,i4,i5,i6⟩
theorem FndX.at_ {w:World}{S:List Nat}:∀ {l:List (Ps×Rc)} {xs:List Value} {j:Nat} {pk:Ps} {R:Rc},FndX w S l xs→l[j]? = some (pk,R)→∃ L m c P k d,RcIn w S L m P k R∧xs[j*10+1]? = some (.int .i64 pk.o)∧xs[j*10+5]? = some (.int .i64 R.m)∧xs[j*10+6]? = some (.int .i64 R.l)∧xs[j*10+7]? = some (.int .i64 R.p)∧xs[j*10+8]? = some (.slice L m c)∧xs[j*10+9]? = some (.slice P k d)
 | [],_,j,_,_,_,hj=>by simp at hj
 | (pk',R')::l,_,0,pk,R,⟨L,m,c,P,k,d,rest,h1,h2,h3⟩,hj=>by
  simp at hj
  obtain⟨rfl,rfl⟩:=hj
  subst h1
  exact⟨L,m,c,P,k,d,h2,rfl,rfl,rfl,rfl,rfl,rfl⟩
 | (pk',R')::l,_,j+1,pk,R,⟨L,m,c,P,k,d,rest,h1,h2,h3⟩,hj=>by
  subst h1
  obtain⟨L',m',c',P',k',d',i0,i1,i2,i3,i4,i5,i6⟩:=FndX.at_ h3 (by simpa using hj)
  have e:(j+1)*10=j*10+10:=by omega
  rw[e]
  exact⟨L',m',c',P',k',d',i0,i1,i2,i3,i4,i5,i6⟩
theorem vals_at {w:World}{S:List Nat}{A:Option Addr}{xs:List Value}(h:Vals w S A xs){i:Nat}{v:Value}(hi:xs[i]? = some v):∃ ad,A=some ad∧w.cell? (ad.add i)=some v:=by
 obtain⟨ad,h1,_,h3⟩:=h i v hi
 exact⟨ad,h1,h3⟩
theorem add_cell {W:World}{ad:Addr}{i t:Nat}{v:Value}(h:W.cell? (ad.add (i+t))=some v)(ht:t≠0:=by omega):W.cell? ⟨(ad.add i).block,(ad.add i).off+t,none⟩=some v:=by
 have e:ad.add (i+t)=⟨(ad.add i).block,(ad.add i).off+t,none⟩:=by
  unfold Addr.add
  by_cases hi:i=0<;>simp [hi,ht,Nat.add_assoc]
 rw[←e]
 exact h
set_option maxRecDepth 100000 in
set_option maxHeartbeats 4000000 in
theorem same_any (L:List (Ps×Rc))(A1 A2:Option Addr)(n cc1 cc2:Nat)(xs ys:List Value)(w:World)(hn:L.length=n)(hb:n≤1000)(v1:Vals w [] A1 xs)(f1:FndIn w [] L xs)(v2:Vals w [] A2 ys)(f2:FndX w [] L ys)(ho:∀ x∈L,x.2.its.length≤6∧x.2.bks.length≤6):
  Calls Tryz.prog 24 #[.slice A1 n cc1,.slice A2 n cc2] w fun e w'=>e= .returned (.bool true)∧Kept [] w w':=by
 have HN:=hide hn
 have V1:=hide v1
 have V2:=hide v2
 have F1:=hide f1
 have F2:=hide f2
 have HO:=hide ho
 clear hn v1 f1 v2 f2 ho
 go_enter Tryz.func24,Tryz.ntmps24
 go_wp2
 go_loopw [5] (fun i wr=>∃ j:Nat,j≤n∧i= .int .i64 j∧Hid (Kept [] w wr)) (fun i wr=>n-(intOf i).toNat)
 case atStart=>exact⟨0,Nat.zero_le _,rfl,hide (Kept.refl _ _)⟩
 case round=>
  obtain⟨j,hj,rfl,HK⟩:=hrel
  by_cases hlt:j<n
  ·obtain⟨⟨pk,R⟩,hx⟩:∃ x,L[j]? = some x:=⟨_,List.getElem?_eq_getElem (by rw[HN.out];exact hlt)⟩
   obtain⟨L1,m1,c1,P1,k1,d1,hr1,i0,i1,i2,i3,i4,i5⟩:=F1.out.at_ hx
   obtain⟨L2,m2,c2,P2,k2,d2,hr2,j0,j1,j2,j3,j4,j5⟩:=F2.out.at_ hx
   obtain⟨ad1,rfl,g0⟩:=vals_at V1.out i0
   obtain⟨ad2,rfl,h0⟩:=vals_at V2.out j0
   have K1:Hid (∀ (i:Nat) (v:Value),xs[i]? = some v→w.cell? (ad1.add i)=some v):=hide (fun i v hi=>by obtain⟨ad,e,g⟩:=vals_at V1.out hi;cases e;exact g)
   have K2:Hid (∀ (i:Nat) (v:Value),ys[i]? = some v→w.cell? (ad2.add i)=some v):=hide (fun i v hi=>by obtain⟨ad,e,g⟩:=vals_at V2.out hi;cases e;exact g)
   obtain⟨wd,hwd⟩:∃ wd,wr.drew=wd:=⟨_,rfl⟩
   have kd:Kept [] w wd:=by rw[←hwd];exact HK.out.trans ((Kept.refl [] wr).drew) (by simp)
   have HCW:=hide (show ∀ W,Kept [] w W→True∧W.cell? (ad1.add (j*6))=some (.int .i64 pk.o)∧W.cell? ⟨(ad1.add (j*6)).block,(ad1.add (j*6)).off+1,none⟩=some (.int .i64 R.m)∧W.cell? ⟨(ad1.add (j*6)).block,(ad1.add (j*6)).off+2,none⟩=some (.int .i64 R.l)∧W.cell? ⟨(ad1.add (j*6)).block,(ad1.add (j*6)).off+3,none⟩=some (.int .i64 R.p)∧W.cell? ⟨(ad1.add (j*6)).block,(ad1.add (j*6)).off+4,none⟩=some (.slice L1 m1 c1)∧W.cell? ⟨(ad1.add (j*6)).block,(ad1.add (j*6)).off+5,none⟩=some (.slice P1 k1 d1)∧W.cell? ⟨(ad2.add (j*10)).block,(ad2.add (j*10)).off+1,none⟩=some (.int .i64 pk.o)∧W.cell? ⟨(ad2.add (j*10)).block,(ad2.add (j*10)).off+5,none⟩=some (.int .i64 R.m)∧W.cell? ⟨(ad2.add (j*10)).block,(ad2.add (j*10)).off+6,none⟩=some (.int .i64 R.l)∧W.cell? ⟨(ad2.add (j*10)).block,(ad2.add (j*10)).off+7,none⟩=some (.int .i64 R.p)∧W.cell? ⟨(ad2.add (j*10)).block,(ad2.add (j*10)).off+8,none⟩=some (.slice L2 m2 c2)∧W.cell? ⟨(ad2.add (j*10)).block,(ad2.add (j*10)).off+9,none⟩=some (.slice P2 k2 d2)from fun W k=>⟨trivial,k.cell g0 (by simp),add_cell (k.cell (K1.out _ _ i1) (by simp)),add_cell (k.cell (K1.out _ _ i2) (by simp)),add_cell (k.cell (K1.out _ _ i3) (by simp)),add_cell (k.cell (K1.out _ _ i4) (by simp)),add_cell (k.cell (K1.out _ _ i5) (by simp)),add_cell (k.cell h0 (by simp)),add_cell (k.cell (K2.out _ _ j1) (by simp)),add_cell (k.cell (K2.out _ _ j2) (by simp)),add_cell (k.cell (K2.out _ _ j3) (by simp)),add_cell (k.cell (K2.out _ _ j4) (by simp)),add_cell (k.cell (K2.out _ _ j5) (by simp))⟩)
   have HR:=hide (fun W (k:Kept [] w W)=>record.record_any R R L1 P1 L2 P2 m1 c1 k1 d1 m2 c2 k2 d2 W (hr1.at_.kept k) (hr2.at_.kept k) (by have h1:=(HO.out _ (List.mem_of_getElem? hx)).1;have h2:=hr1.hn;simp at h1;omega) (by have h1:=(HO.out _ (List.mem_of_getElem? hx)).2;have h2:=hr1.hk;simp at h1;omega))
   have HKD:=hide kd
   have HWD:=hide hwd
   clear hx hr1 hr2 i0 i1 i2 i3 i4 i5 j0 j1 j2 j3 j4 j5 g0 h0 K1 K2 kd hwd
   go_wp2
   refine wp_region_noPanic ?_
   refine wp_region_held_drew (S:=fun W=>Kept [] w W∧True∧W.cell? (ad1.add (j*6))=some (.int .i64 pk.o)∧W.cell? ⟨(ad1.add (j*6)).block,(ad1.add (j*6)).off+1,none⟩=some (.int .i64 R.m)∧W.cell? ⟨(ad1.add (j*6)).block,(ad1.add (j*6)).off+2,none⟩=some (.int .i64 R.l)∧W.cell? ⟨(ad1.add (j*6)).block,(ad1.add (j*6)).off+3,none⟩=some (.int .i64 R.p)∧W.cell? ⟨(ad1.add (j*6)).block,(ad1.add (j*6)).off+4,none⟩=some (.slice L1 m1 c1)∧W.cell? ⟨(ad1.add (j*6)).block,(ad1.add (j*6)).off+5,none⟩=some (.slice P1 k1 d1)∧W.cell? ⟨(ad2.add (j*10)).block,(ad2.add (j*10)).off+1,none⟩=some (.int .i64 pk.o)∧W.cell? ⟨(ad2.add (j*10)).block,(ad2.add (j*10)).off+5,none⟩=some (.int .i64 R.m)∧W.cell? ⟨(ad2.add (j*10)).block,(ad2.add (j*10)).off+6,none⟩=some (.int .i64 R.l)∧W.cell? ⟨(ad2.add (j*10)).block,(ad2.add (j*10)).off+7,none⟩=some (.int .i64 R.p)∧W.cell? ⟨(ad2.add (j*10)).block,(ad2.add (j*10)).off+8,none⟩=some (.slice L2 m2 c2)∧W.cell? ⟨(ad2.add (j*10)).block,(ad2.add (j*10)).off+9,none⟩=some (.slice P2 k2 d2)) (by kernel_rfl) (by exact⟨by rw[HWD.out];exact HKD.out,HCW.out _ (by rw[HWD.out];exact HKD.out)⟩) (fun hHeld=> ?_)
   refine tK 0 17 rfl ?_
   try simp only[Act.put,pA,pB,pC]
   refine tK 1 18 rfl ?_
   try simp only[Act.put,pA,pB,pC]
   refine tK 2 19 rfl ?_
   try simp only[Act.put,pA,pB,pC]
   refine tK 3 20 rfl ?_
   try simp only[Act.put,pA,pB,pC]
   refine tK 4 21 rfl ?_
   try simp only[Act.put,pA,pB,pC]
   refine tK 5 22 rfl ?_
   try simp only[Act.put,pA,pB,pC]
   refine tK 6 23 rfl ?_
   try simp only[Act.put,pA,pB,pC]
   refine tK 7 24 rfl ?_
   try simp only[Act.put,pA,pB,pC]
   refine tK 8 25 rfl ?_
   try simp only[Act.put,pA,pB,pC]
   refine tK 9 26 rfl ?_
   try simp only[Act.put,pA,pB,pC]
   refine tK 10 27 rfl ?_
   try simp only[Act.put,pA,pB,pC]
   refine tK 11 28 rfl ?_
   try simp only[Act.put,pA,pB,pC]
   refine tK 12 29 rfl ?_
   try simp only[Act.put,pA,pB,pC]
   refine tK 13 30 rfl ?_
   try simp only[Act.put,pA,pB,pC]
   refine tK 14 31 rfl ?_
   try simp only[Act.put,pA,pB,pC]
   refine tK 15 32 rfl ?_
   try simp only[Act.put,pA,pB,pC]
   refine tK 16 33 rfl ?_
   try simp only[Act.put,pA,pB,pC]
   refine tK 17 34 rfl ?_
   try simp only[Act.put,pA,pB,pC]
   refine tK 18 35 rfl ?_
   try simp only[Act.put,pA,pB,pC]
   refine tK 19 36 rfl ?_
   try simp only[Act.put,pA,pB,pC]
   refine tK 20 37 rfl ?_
   try simp only[Act.put,pA,pB,pC]
   refine tK 21 38 rfl ?_
   try simp only[Act.put,pA,pB,pC]
   refine tK 22 39 rfl ?_
   try simp only[Act.put,pA,pB,pC]
   refine hO 23 (some 40) rfl fun K hK=> ?_
   go_simp
   refine(HR.out _ hHeld.1).mono ?_
   rintro e' w2 ⟨rfl,hk2⟩
   have HK2:=hide (hHeld.1.trans hk2 (by simp))
   (try rw[show decide (R=R)=true from decide_eq_true rfl])
   (try rw[show decide True=true from rfl])
   refine hK.out _ _ (by exact⟨HK2.out,HCW.out _ HK2.out⟩) (fun hHeld=> ?_)
   clear hK K
   try simp only[Act.put,pA,pB,pC]
   refine tK 24 41 rfl ?_
   try simp only[Act.put,pA,pB,pC]
   refine tK 25 42 rfl ?_
   try simp only[Act.put,pA,pB,pC]
   refine wpAnyH_done (by kernel_rfl) ?_ _
   refine NoPanic.normal ?_
   go_wp2
   go_roundw
   case rel=>exact⟨j+1,by omega,by go_num,HK2⟩
   case measure=>simp [intOf];omega
  ·obtain rfl:j=n:=by omega
   go_wp2
   go_ret
   exact⟨rfl,HK.out⟩
end Go.Proofs.YtjkmahmoclobmaaGreat.sc
