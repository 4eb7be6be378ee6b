/- Package geom: Page and Where. -/
import Derived.Test.YthacnlpdodlggaaGeomOps
namespace Go.Proofs.Ythacnlpdodlggaa.geom
open Go.RowKit Go.Proofs.Ythacnlpdodlggaa.mem Go.Proofs.Ythacnlpdodlggaa.base



/-- Which segment a sector lies in, and how far from its first one. -/
def isIn (s l r q a : Int) : Prop := 2 + 2 * r + 4 * q ≤ a ∧ a < 2 + 2 * r + 4 * q + s * l


end Go.Proofs.Ythacnlpdodlggaa.geom
