/-
  The walk of the document's Decode.
-/
import Derived.Test.YthhhfonhcnkogaaDoorUtfGet0
namespace Go.Proofs.YthhhfonhcnkogaaDoor
open Go.RowKit

end Go.Proofs.YthhhfonhcnkogaaDoor
