/-
  The walk of PutId.
-/
import Derived.Test.YtkjgcgdfofheeaaPut
import Derived.Test.YtkjgcgdfofheeaaIds
namespace Go.Proofs.Ytkjgcgdfofheeaa
open Go.RowKit

theorem idAt_new (w : World) (il : List UInt8) (hi : il.length = 32) : IdAt (w.alloc (.cells (idCells il) 41)) w.heap.size il := ⟨hi, heap_alloc_new w _⟩

theorem IdAt.bytes {w : World} {g : Nat} {l : List UInt8} (h : IdAt w g l) : Bytes w (some ⟨g, 0, none⟩) 32 32 l :=
  ⟨h.1, Nat.le_refl _, by omega, .inr ⟨g, 0, rfl, fun j hj => by rw [Nat.zero_add]; exact h.cell j hj⟩⟩

set_option maxRecDepth 100000 in
set_option maxHeartbeats 400000 in
theorem putId_any (a : Option Addr) (n c : Nat) (l il : List UInt8) (w : World) (hb : Bytes w a n c l) (hi : il.length = 32) (hl : l.length ≤ 281474976710000) :
    Calls Try.prog 27 #[.slice a n c, .agg (idCells il)] w (Made w (l ++ il)) := by
  have hbel : Below w.heap.size w (w.alloc (.cells (idCells il) 41)) := (Below.refl _ _).alloc (Nat.le_refl _) _
  have hp := parts_two (hb.below hbel) (idAt_new w il hi).bytes
  rw [show (w.alloc (.cells (idCells il) 41)).heap.size = w.heap.size + 1 from by simp] at hp
  have HP := Lib.hid hp
  clear hp
  have HI := Lib.hid hi
  have HBL := Lib.hid hbel
  clear hb hi hbel
  go_enter Try.func27, Try.ntmps27
  go_wp2_with (go_at_call 28; go_must (refine (concat_any _ 2 [l, il] _ rfl (by omega) HP.out (by have := HI.out; simp; omega)).mono ?_); rintro e w3 ⟨a3, n3, c3, rfl, hown3, hbel3⟩)
  go_ret
  refine Made.of (by have := hown3.mono (base' := w.heap.size) (by simp; omega); simpa using this) ((HBL.out.alloc HBL.out.size _).trans (hbel3.mono (by simp; omega)))
#print axioms putId_any
end Go.Proofs.Ytkjgcgdfofheeaa
