/- Package geom: Page and Where. -/
import Derived.Test.YtklcbogjkkfnkaaGreatGeomOps
namespace Go.Proofs.YtklcbogjkkfnkaaGreat.geom
open Go.RowKit Go.Proofs.YtklcbogjkkfnkaaGreat.mem Go.Proofs.YtklcbogjkkfnkaaGreat.base



/-- Which segment a sector lies in, and how far from its first one. -/
def isIn (s l r q a : Int) : Prop := 2 + 2 * r + 4 * q ≤ a ∧ a < 2 + 2 * r + 4 * q + s * l


end Go.Proofs.YtklcbogjkkfnkaaGreat.geom
