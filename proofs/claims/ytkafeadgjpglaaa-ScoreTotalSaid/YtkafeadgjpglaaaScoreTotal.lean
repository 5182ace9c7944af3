/-
  The walk of the law ScoreTotal.
-/
import Derived.Test.YtkafeadgjpglaaaScoreTotalA
import Derived.Test.YtkafeadgjpglaaaScoreTotalB
import Derived.Test.YtkafeadgjpglaaaScoreTotalC
namespace Go.Proofs.Ytkafeadgjpglaaa
open Go.RowKit
theorem scoreTotal_any (x y z : Nat) (w : World) (hx : x < 18446744073709551616) (hy : y < 18446744073709551616) (hz : z < 18446744073709551616) : Calls Try.prog 8 #[.float .f64 x, .float .f64 y, .float .f64 z] w (Yes w) := by
  rcases ordF_range x y with h | h | h
  · exact scoreTotal_A x y z w hx hy hz h.symm
  · exact scoreTotal_B x y z w hx hy hz h.symm
  · exact scoreTotal_C x y z w hx hy hz h.symm
end Go.Proofs.Ytkafeadgjpglaaa
