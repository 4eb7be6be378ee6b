/- Package geom: Page and Where. -/
import Derived.Test.YtjbdjdlmpcbakaaGreatQGeomOps
namespace Go.Proofs.YtjbdjdlmpcbakaaGreat.geom
open Go.RowKit Go.Proofs.YtjbdjdlmpcbakaaGreat.mem Go.Proofs.YtjbdjdlmpcbakaaGreat.base
end Go.Proofs.YtjbdjdlmpcbakaaGreat.geom
