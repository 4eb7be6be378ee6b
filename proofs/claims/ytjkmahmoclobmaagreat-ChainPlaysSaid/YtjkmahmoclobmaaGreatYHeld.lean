import Derived.Test.YtjkmahmoclobmaaGreatYAlike
import Derived.Deep.RegionHeld3
namespace Go.Proofs.YtjkmahmoclobmaaGreat.base
open Go.RowKit mem
theorem held_one {P:Program}{md:Region.Mode}{ops:Array Oper}{Q:Exit→Act→World→Prop}{S:World→Prop}{fuel:Nat}{listed:Array Bool}{a:Act}{w:World}{i:Nat}{o:Oper}(ho:ops[i]? = some o)(hr:Region.ready md ops listed=[i])
  (hw:Region.wanted o (yielded ops a.tmps)=true)
  (h:∀ K:Act→World→Prop,Shut (∀ a w,S w→(S w→wpAnyH P md ops Q S fuel (listed.setIfInBounds i true) a w)→K a w)→Oper.wp P o a w K Q):wpAnyH P md ops Q S (fuel+1) listed a w:=
 wpAnyH_all hr (by simp) (fun j hj=>by
  simp at hj;subst hj;unfold wpOp;simp only[ho,hw,if_true]
  exact .inl (h _ (fun _ _ h1 h2=>⟨h1,h2 h1⟩)))
theorem pA {α:Type _}(l:List α)(i:Nat)(a:α):l.toArray.setIfInBounds i a=(l.set i a).toArray:=by simp
theorem pB {α:Type _}{x a:α}{xs:List α}:(x::xs).set 0 a=a::xs:=rfl
theorem pC {α:Type _}{x a:α}{xs:List α}{n:Nat}:(x::xs).set (n+1) a=x::xs.set n a:=rfl
theorem tK {P:Program}{md:Region.Mode}{ops:Array Oper}{Q:Exit→Act→World→Prop}{S:World→Prop}{fuel:Nat}{listed:Array Bool}{a:Act}{w:World}{v:Value}(i:Nat)(d:Tmp){op:Op}{ty:TypeId}{pos:String}{after:Array Edge}{gd:Option (Nat×Bool)}(hi:ops[i]? = some ⟨some d,op,ty,pos,after,gd⟩)
  {R:Prop} (z:R)
  (hy:∀ w,S w→(execOp a.eval ⟨some d,op,ty,pos,after,gd⟩).run P w= .ok (.value v) w:=by(intro W h;(try dsimp only at h);go_simp;try with_reducible rfl))
  (hs:Region.noSelect ops=true:=by kernel_rfl) (hf:Region.free md ops listed i=true:=by kernel_rfl) (hr:(Region.ready md ops listed).contains i=true:=by kernel_rfl)
  (hQ:∀ c a w,Q (.panic c) (a.put (some d) v) w→Q (.panic c) a w:=by exact fun _ _ _ h=>h)
  (hw:Region.wanted ⟨some d,op,ty,pos,after,gd⟩ (yielded ops a.tmps)=true:=by rfl) (hS:S w:=by first|assumption|trivial)
  (h:R→wpAnyH P md ops Q S fuel (listed.setIfInBounds i true) (a.put (some d) v) w:=by(intro z;(try simp only[Act.put,pA,pB,pC]);exact z)):wpAnyH P md ops Q S (fuel+1) listed a w:=
 wpAnyH_take hi hs hf hr hQ (.inl ⟨hw,hy⟩) hS (h z)
theorem tU {P:Program}{md:Region.Mode}{ops:Array Oper}{Q:Exit→Act→World→Prop}{S:World→Prop}{fuel:Nat}{listed:Array Bool}{a:Act}{w:World}(i:Nat)(d:Tmp){op:Op}{ty:TypeId}{pos:String}{after:Array Edge}{gd:Option (Nat×Bool)}(hi:ops[i]? = some ⟨some d,op,ty,pos,after,gd⟩)
  {R:Prop} (z:R)
  (hs:Region.noSelect ops=true:=by kernel_rfl) (hf:Region.free md ops listed i=true:=by kernel_rfl) (hr:(Region.ready md ops listed).contains i=true:=by kernel_rfl)
  (hQ:∀ c a w,Q (.panic c) (a.put (some d) undef) w→Q (.panic c) a w:=by exact fun _ _ _ h=>h)
  (hw:Region.wanted ⟨some d,op,ty,pos,after,gd⟩ (yielded ops a.tmps)=false:=by rfl) (hS:S w:=by first|assumption|trivial)
  (h:R→wpAnyH P md ops Q S fuel (listed.setIfInBounds i true) (a.put (some d) undef) w:=by(intro z;(try simp only[Act.put,pA,pB,pC]);exact z)):wpAnyH P md ops Q S (fuel+1) listed a w:=
 wpAnyH_take hi hs hf hr hQ (.inr ⟨hw,rfl⟩) hS (h z)
theorem tS {P R:Prop}(z:R)(h:R→P:=by(intro z;(try simp only[Act.put,pA,pB,pC]);exact z)):P:=h z
theorem hO {P:Program}{md:Region.Mode}{ops:Array Oper}{Q:Exit→Act→World→Prop}{S:World→Prop}{fuel:Nat}{listed:Array Bool}{a:Act}{w:World}(i:Nat)(d:Option Tmp){op:Op}{ty:TypeId}{pos:String}{after:Array Edge}{gd:Option (Nat×Bool)}(ho:ops[i]? = some ⟨d,op,ty,pos,after,gd⟩)
  (h:∀ K:Act→World→Prop,Shut (∀ a w,S w→(S w→wpAnyH P md ops Q S fuel (listed.setIfInBounds i true) a w)→K a w)→Oper.wp P ⟨d,op,ty,pos,after,gd⟩ a w K Q)
  (hr:Region.ready md ops listed=[i]:=by kernel_rfl) (hw:Region.wanted ⟨d,op,ty,pos,after,gd⟩ (yielded ops a.tmps)=true:=by rfl):wpAnyH P md ops Q S (fuel+1) listed a w:=
 held_one ho hr hw h
end Go.Proofs.YtjkmahmoclobmaaGreat.base
