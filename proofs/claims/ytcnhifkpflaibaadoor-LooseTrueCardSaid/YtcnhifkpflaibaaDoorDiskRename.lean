/-
  The walk of Rename's closure.
-/
import Derived.Test.YtcnhifkpflaibaaDoorDiskRemove
namespace Go.Proofs.YtcnhifkpflaibaaDoor
open Go.RowKit Go.Maps

theorem str_ne {x y : List UInt8} : ((strB x).toList == (strB y).toList) = (x == y) := by rw [Lib.toList_data, Lib.toList_data, strB_eq, strB_eq]
end Go.Proofs.YtcnhifkpflaibaaDoor
