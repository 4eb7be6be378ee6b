/- Package geom: Page and Where. -/
import Derived.Test.YtklcbogjkkfnkaaGreatPGeomOps
namespace Go.Proofs.YtklcbogjkkfnkaaGreat.geom
open Go.RowKit Go.Proofs.YtklcbogjkkfnkaaGreat.mem Go.Proofs.YtklcbogjkkfnkaaGreat.base
end Go.Proofs.YtklcbogjkkfnkaaGreat.geom
