/- Values that come in whole: a struct, or an array, all of whose cells are ints. -/
import Derived.Test.YtklcbogjkkfnkaaGreatPOpen
import GoSem.ClaimWide
namespace Go.Proofs.YtklcbogjkkfnkaaGreat.base
open Go.RowKit Go.Proofs.YtklcbogjkkfnkaaGreat.mem
end Go.Proofs.YtklcbogjkkfnkaaGreat.base
