/- A region that draws its order, taken operation by operation: one that alone may come up. -/
import Derived.Test.YtfeepmahipecpaaBase
import Derived.Deep.RegionHeld3
namespace Go.Proofs.Ytfeepmahipecpaa.base
open Go.RowKit Go.Proofs.Ytfeepmahipecpaa.mem

theorem held_one {P : Program} {md : Region.Mode} {ops : Array Oper} {Q : Exit → Act → World → Prop} {S : World → Prop} {fuel : Nat} {listed : Array Bool} {a : Act} {w : World} {i : Nat} {o : Oper} (ho : ops[i]? = some o) (hr : Region.ready md ops listed = [i])
    (hw : Region.wanted o (yielded ops a.tmps) = true)
    (h : ∀ K : Act → World → Prop, Shut (∀ a w, S w → (S w → wpAnyH P md ops Q S fuel (listed.setIfInBounds i true) a w) → K a w) → Oper.wp P o a w K Q) : wpAnyH P md ops Q S (fuel + 1) listed a w :=
  wpAnyH_all hr (by simp) (fun j hj => by
    simp at hj
    subst hj
    unfold wpOp
    simp only [ho, hw, if_true]
    exact .inl (h _ (fun _ _ h1 h2 => ⟨h1, h2 h1⟩)))
end Go.Proofs.Ytfeepmahipecpaa.base
