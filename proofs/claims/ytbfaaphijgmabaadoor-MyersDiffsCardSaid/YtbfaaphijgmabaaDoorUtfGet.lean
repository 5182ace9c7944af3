/-
  The walk of the document's Decode.
-/
import Derived.Test.YtbfaaphijgmabaaDoorUtfGet0
namespace Go.Proofs.YtbfaaphijgmabaaDoor
open Go.RowKit

end Go.Proofs.YtbfaaphijgmabaaDoor
