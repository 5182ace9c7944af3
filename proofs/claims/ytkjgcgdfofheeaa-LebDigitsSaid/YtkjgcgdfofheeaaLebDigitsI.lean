/-
  LebDigits, at whatever integer of a byte's kind.
-/
import Derived.Test.YtkjgcgdfofheeaaLebDigitsW
import Derived.Test.YtkjgcgdfofheeaaOpen
namespace Go.Proofs.Ytkjgcgdfofheeaa
open Go.RowKit

theorem byte_of_int {x : Int} (h : (Lit.int .u8 x).wf = true) : ∃ b : UInt8, x = (b.toNat : Int) := by
  have hb : 0 ≤ x ∧ x ≤ 255 := by simpa [Lit.wf, IntKind.min, IntKind.max, IntKind.signed, IntKind.bits] using h
  exact ⟨UInt8.ofNat x.toNat, by simp; omega⟩

theorem lebDigits_int (l : List UInt8) (hl : l.length = 32) (p : ByteArray) (x : Int) (hx : (Lit.int .u8 x).wf = true) (w : World) (hp : p.size ≤ 9223372036854775807) :
    Calls Try.prog 8 #[.agg (idCells l), .string p, .int .u8 x] w fun e w' => e = .returned (.bool true) ∧ Below w.heap.size w w' := by
  obtain ⟨n, rfl⟩ := byte_of_int hx
  exact lebDigits_any l hl p n w hp
end Go.Proofs.Ytkjgcgdfofheeaa
