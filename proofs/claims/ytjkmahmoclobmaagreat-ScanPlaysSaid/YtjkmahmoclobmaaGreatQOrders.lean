import Derived.Test.YtjkmahmoclobmaaGreatQAlike
import Derived.Deep.RegionHeld3
namespace Go.Proofs.YtjkmahmoclobmaaGreat.base
open Go.RowKit mem
theorem next_two {P:Program}{md:Region.Mode}{ops:Array Oper}{Q:Exit→Act→World→Prop}{S:World→Prop}{fuel:Nat}{listed:Array Bool}{a:Act}{w:World}{i j:Nat}{o o':Oper}(hr:Region.ready md ops listed=[i,j])(ho:ops[i]? = some o)(hw:Region.wanted o (yielded ops a.tmps)=true)
  (ho':ops[j]? = some o') (hw':Region.wanted o' (yielded ops a.tmps)=true)
  (h:∀ K:Act→World→Prop,(∀ a w,S w→wpAnyH P md ops Q S fuel (listed.setIfInBounds i true) a w→K a w)→Oper.wp P o a w K Q)
  (h':∀ K:Act→World→Prop,(∀ a w,S w→wpAnyH P md ops Q S fuel (listed.setIfInBounds j true) a w→K a w)→Oper.wp P o' a w K Q):wpAnyH P md ops Q S (fuel+1) listed a w:=
 wpAnyH_all hr (by simp) (fun k hk=>by
  simp at hk
  rcases hk with rfl|rfl
  ·unfold wpOp
   simp only[ho,hw,if_true]
   exact .inl (h _ (fun _ _ h1 h2=>⟨h1,h2⟩))
  ·unfold wpOp
   simp only[ho',hw',if_true]
   exact .inl (h' _ (fun _ _ h1 h2=>⟨h1,h2⟩)))
end Go.Proofs.YtjkmahmoclobmaaGreat.base
