/- Values that come in whole: a struct, or an array, all of whose cells are ints. -/
import Derived.Test.YtjbdjdlmpcbakaaGreatQOpen
import GoSem.ClaimWide
namespace Go.Proofs.YtjbdjdlmpcbakaaGreat.base
open Go.RowKit Go.Proofs.YtjbdjdlmpcbakaaGreat.mem
end Go.Proofs.YtjbdjdlmpcbakaaGreat.base
