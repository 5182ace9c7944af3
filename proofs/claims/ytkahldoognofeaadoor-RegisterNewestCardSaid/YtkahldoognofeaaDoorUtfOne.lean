/-
  The walk of the document's One.
-/
import Derived.Test.YtkahldoognofeaaDoorUtfOneMath
import Derived.Deep.QuietTactic
import Derived.BigQuiet
import Derived.WalkSmall
import Derived.Deep.LoopGhost
import Derived.Deep.RegionHeld
import Derived.Deep.Cut
import Derived.IntWalk
namespace Go.Proofs.YtkahldoognofeaaDoor
open Go.RowKit (wrap64)
open Go.RowKit

/-- What One answers. -/
def OneIs (l : List UInt8) (w : World) (e : Ending) (w' : World) : Prop := e = .returned (.tuple #[.int .i32 (oneF l).1, .int .i64 (oneF l).2]) ∧ Below w.heap.size w w'

theorem nb_at (s : ByteArray) (p i : Nat) (h : p + i < s.size) : ((s[p + i]'h).toNat : Int) = nb (s.data.toList.drop p) i := by
  unfold nb
  rw [← get!_drop]
  show _ = ((s.data[p + i]!).toNat : Int)
  rw [getElem!_pos s.data (p + i) h]
  rfl

theorem w64 (z : Int) (h0 : -1000000000000 ≤ z) (h1 : z ≤ 1000000000000) : wrap64 z = z := by unfold wrap64; omega

theorem wrap_i32 (V : Int) (h0 : 0 ≤ V) (h1 : V ≤ 1114111) : IntKind.i32.wrap V = V := by
  unfold IntKind.wrap
  simp [IntKind.bits, IntKind.signed]
  omega

theorem oneF_found {l : List UInt8} {j m : Nat} (hm : mayF m = true) (hj : j ≤ l.length) (h : l.take j = encF m) : oneF l = (m, j) := by unfold oneF; rw [dec_found hm hj h]
theorem oneF_some {l : List UInt8} {p : Nat × Nat} (h : decF l = some p) : oneF l = p := by unfold oneF; rw [h]
theorem oneF_none {l : List UInt8} (h : decF l = none) : oneF l = (0, 0) := by unfold oneF; rw [h]

theorem str_ne {x y : ByteArray} (h : x ≠ y) : (x.toList == y.toList) = false := by
  rw [beq_eq_false_iff_ne]
  intro e
  rw [Lib.toList_data, Lib.toList_data] at e
  exact h (ByteArray.ext (Array.toList_inj.1 e))

end Go.Proofs.YtkahldoognofeaaDoor
