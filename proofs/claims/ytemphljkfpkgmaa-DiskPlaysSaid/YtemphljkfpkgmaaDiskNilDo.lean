/-
  The walk of do at a disk that is not there: whatever the act, nothing happens.
-/
import Derived.Test.YtemphljkfpkgmaaDkNamesAll
namespace Go.Proofs.Ytemphljkfpkgmaa
open Go.RowKit Go.Maps

/-- An act, by its cells. -/
abbrev actC (z : Int) (s t : ByteArray) (a : Option Addr) (m c : Nat) (n : Int) (a5 : Option Addr) (m5 c5 : Nat) : Array Value := #[.int .i64 z, .string s, .string t, .slice a m c, .int .i64 n, .slice a5 m5 c5]
theorem box_act (w : World) (z : Int) (s t : ByteArray) (a : Option Addr) (m c : Nat) (n : Int) (a5 : Option Addr) (m5 c5 : Nat) (ty : TypeId) :
    (w.alloc (.cells (actC z s t a m c n a5 m5 c5) ty)).cell? ⟨w.heap.size, 0, none⟩ = some (.int .i64 z) ∧ (w.alloc (.cells (actC z s t a m c n a5 m5 c5) ty)).cell? ⟨w.heap.size, 1, none⟩ = some (.string s) ∧
    (w.alloc (.cells (actC z s t a m c n a5 m5 c5) ty)).cell? ⟨w.heap.size, 2, none⟩ = some (.string t) ∧ (w.alloc (.cells (actC z s t a m c n a5 m5 c5) ty)).cell? ⟨w.heap.size, 3, none⟩ = some (.slice a m c) ∧
    (w.alloc (.cells (actC z s t a m c n a5 m5 c5) ty)).cell? ⟨w.heap.size, 4, none⟩ = some (.int .i64 n) ∧ (w.alloc (.cells (actC z s t a m c n a5 m5 c5) ty)).cell? ⟨w.heap.size, 5, none⟩ = some (.slice a5 m5 c5) := by
  refine ⟨?_, ?_, ?_, ?_, ?_, ?_⟩ <;> rw [World.cell?_alloc_new] <;> rfl

end Go.Proofs.Ytemphljkfpkgmaa
