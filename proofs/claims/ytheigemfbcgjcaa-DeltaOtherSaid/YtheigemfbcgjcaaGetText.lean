/-
  The walk of GetText: what stands at a place of bytes, read as a text.
-/
import Derived.Test.YtheigemfbcgjcaaGet
namespace Go.Proofs.Ytheigemfbcgjcaa
open Go.RowKit

/-- What GetText answers. -/
def getT (l : List UInt8) (at_ most : Int) : List UInt8 × Nat × Nat :=
  match getI l at_ with
  | (n, u, 0) => if most < n then ([], 0, 2) else if l.length < u + n then ([], 0, 6) else ((l.drop u).take n, u + n, 0)
  | (_, _, e + 1) => ([], 0, e + 1)

/-- A string's answer. -/
def TextIs (r : List UInt8 × Nat × Nat) (w : World) (e : Ending) (w' : World) : Prop :=
  e = .returned (.tuple #[.string (strB r.1), .int .i64 r.2.1, .int .i64 r.2.2]) ∧ w = w'

end Go.Proofs.Ytheigemfbcgjcaa
