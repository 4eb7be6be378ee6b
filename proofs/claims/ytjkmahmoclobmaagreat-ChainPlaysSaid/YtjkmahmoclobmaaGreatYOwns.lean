import Derived.Test.YtjkmahmoclobmaaGreatYMem
namespace Go.Proofs.YtjkmahmoclobmaaGreat.owns
set_option linter.unusedSimpArgs false
open Go.RowKit mem
theorem own_blk {w:World}{base:Nat}{e:TypeId}{sz:Nat}{v:Value}{n:Nat}{xs:List Value}(h:w.ownsRow base e sz v n xs):∀ i∈v.ownBlock.toList,base≤i∧i<w.heap.size∧∃ cur,Blk w i e cur:=by
 intro i hi
 rcases h.2 with⟨rfl,_⟩|⟨g,cap,cur,rfl,hb,hg,_⟩
 ·simp [Value.ownBlock]at hi
 ·simp [Value.ownBlock]at hi
  subst hi;exact⟨hb,Blk.lt (show Blk w _ e cur from hg),cur,hg⟩
theorem own_keep {w w':World}{base:Nat}{e:TypeId}{sz:Nat}{v:Value}{n:Nat}{xs:List Value}{S:List Nat}(h:w.ownsRow base e sz v n xs)(k:Kept S w w')(hs:∀ i∈S,i∉v.ownBlock.toList):w'.ownsRow base e sz v n xs:=by
 refine⟨h.1,?_⟩
 rcases h.2 with hn|⟨g,cap,cur,rfl,hb,hg,rest⟩
 ·exact .inl hn
 ·exact .inr ⟨g,cap,cur,rfl,hb,k.blk (show Blk w g e cur from hg) (fun hm=>hs g hm (by simp [Value.ownBlock])),rest⟩
theorem own_apart {w:World}{b1 b2:Nat}{e1 e2:TypeId}{s1 s2:Nat}{v u:Value}{n m:Nat}{xs ys:List Value}(h:w.ownsRow b1 e1 s1 v n xs)(k:w.ownsRow b2 e2 s2 u m ys)(hne:e1≠e2):∀ i∈v.ownBlock.toList,i∉u.ownBlock.toList:=by
 intro i hi hj;obtain⟨_,_,c1,h1⟩:=own_blk h i hi;obtain⟨_,_,c2,h2⟩:=own_blk k i hj;unfold Blk at h1 h2;rw[h1]at h2;injection h2 with h2;injection h2 with _ h2;exact hne h2
theorem own_low {w:World}{b b':Nat}{e:TypeId}{sz:Nat}{v:Value}{n:Nat}{xs:List Value}(h:w.ownsRow b e sz v n xs)(hb:b'≤b):w.ownsRow b' e sz v n xs:=by
 refine⟨h.1,?_⟩
 rcases h.2 with hn|⟨g,cap,cur,rfl,hg,rest⟩
 ·exact .inl hn
 ·exact .inr ⟨g,cap,cur,rfl,Nat.le_trans hb hg,rest⟩
theorem own_read {w:World}{base:Nat}{e:TypeId}{sz:Nat}{v:Value}{n:Nat}{xs:List Value}(h:w.ownsRow base e sz v n xs):∃ A c,v= .slice A n c∧n≤c∧(∀ S:List Nat,(∀ i∈S,i<base∨w.heap.size≤i)→Vals w S A xs):=by
 have hl:=h.1
 rcases h.2 with⟨rfl,h0⟩|⟨g,cap,cur,rfl,hb,hh,hn,hm,hs,ht⟩
 ·subst h0;have e0:xs=[]:=List.eq_nil_of_length_eq_zero (by omega);subst e0;exact⟨none,0,rfl,Nat.le_refl _,fun S _=>Vals.nil _ _ _⟩
 ·refine⟨_,_,rfl,hn,fun S hS=> ?_⟩;have hlt:g<w.heap.size:=Blk.lt (show Blk w g e cur from hh);refine Vals.blk 0 (show Blk w g e cur from hh) (fun hm=>by have:=hS _ hm;omega) (fun i x hv=> ?_);have hi:i<xs.length:=(List.getElem?_eq_some_iff.1 hv).1;rw[←ht,List.getElem?_take_of_lt (by rw[←hl];exact hi)]at hv
  simpa using hv

end Go.Proofs.YtjkmahmoclobmaaGreat.owns
