/-
  What was written is read, at whatever place: numbers, texts, ids.
-/
import Derived.Test.YtheigemfbcgjcaaGetText
import Derived.Test.YtheigemfbcgjcaaIds
namespace Go.Proofs.Ytheigemfbcgjcaa
open Go.RowKit

/-- What Get answers where a number was written. -/
theorem getI_back (A R : List UInt8) (k : Nat) (hk : k < 9223372036854775808) : getI (A ++ (numF k ++ R)) (A.length : Int) = (k, A.length + (numF k).length, 0) := by
  unfold getI
  rw [if_neg (by simp; omega)]
  unfold getR
  rw [show ((A.length : Int)).toNat = A.length from by omega, List.drop_left, getGo_back 9 0 0 k R (by simpa using hk) (by omega) (by omega)]
  simp

theorem getT_back (A R sl : List UInt8) (hs : sl.length < 9223372036854775808) : getT (A ++ (numF sl.length ++ (sl ++ R))) (A.length : Int) (sl.length : Int) = (sl, A.length + (numF sl.length).length + sl.length, 0) := by
  unfold getT
  rw [getI_back A (sl ++ R) sl.length hs]
  simp only []
  rw [if_neg (by omega), if_neg (by simp; omega)]
  rw [← List.append_assoc, ← List.append_assoc, show A.length + (numF sl.length).length = (A ++ numF sl.length).length from by simp, List.append_assoc (A ++ numF sl.length), List.drop_left, List.take_left]

theorem getD_back (A R il : List UInt8) (hi : il.length = 32) : getD_ (A ++ (il ++ R)) (A.length : Int) = (il, A.length + 32, 0) := by
  unfold getD_
  rw [if_neg (by simp; omega), if_neg (by simp; omega), show ((A.length : Int)).toNat = A.length from by omega, List.drop_left, ← hi, List.take_left]
#print axioms getT_back
end Go.Proofs.Ytheigemfbcgjcaa
