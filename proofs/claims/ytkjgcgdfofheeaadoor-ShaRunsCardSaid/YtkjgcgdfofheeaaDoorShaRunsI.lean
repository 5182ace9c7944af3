/-
  ShaRuns, at whatever integers of a byte's kind.
-/
import Derived.Test.YtkjgcgdfofheeaaDoorShaRuns
import Derived.Test.YtkjgcgdfofheeaaDoorOpen
namespace Go.Proofs.YtkjgcgdfofheeaaDoor
open Go.RowKit

theorem byte_of_int {x : Int} (h : (Lit.int .u8 x).wf = true) : ∃ b : UInt8, x = (b.toNat : Int) := by
  have hb : 0 ≤ x ∧ x ≤ 255 := by simpa [Lit.wf, IntKind.min, IntKind.max, IntKind.signed, IntKind.bits] using h
  exact ⟨UInt8.ofNat x.toNat, by simp; omega⟩

theorem shaRuns_int (x y : Int) (hx : (Lit.int .u8 x).wf = true) (hy : (Lit.int .u8 y).wf = true) (w : World) (ht : Tables w) :
    Calls Tryd.prog 6 #[.int .u8 x, .int .u8 y] w fun e w' => e = .returned (.bool true) ∧ Below w.heap.size w w' := by
  obtain ⟨a, rfl⟩ := byte_of_int hx
  obtain ⟨b, rfl⟩ := byte_of_int hy
  exact shaRuns_any a b w ht
end Go.Proofs.YtkjgcgdfofheeaaDoor
