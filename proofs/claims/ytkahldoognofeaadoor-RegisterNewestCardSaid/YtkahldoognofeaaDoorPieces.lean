/-
  The walks of the document's pieces and Texts.
-/
import Derived.Test.YtkahldoognofeaaDoorClash
namespace Go.Proofs.YtkahldoognofeaaDoor
open Go.RowKit

theorem one_str (w : World) (b : ByteArray) (T : TypeId) : At1 St (w.alloc (.cells #[.string b] T)) (some ⟨w.heap.size, 0, none⟩) 1 1 [b.data.toList] := by
  refine ⟨rfl, Nat.le_refl _, by omega, .inr ⟨_, _, rfl, fun j hj => ?_⟩⟩
  obtain rfl : j = 0 := by omega
  show _ = some (Value.string (strB b.data.toList))
  rw [strB_of]
  simp

/-- The pieces so far; behind the end all. -/
def pcX (s : List UInt8) (i : Nat) : List (List UInt8) × Nat := if i ≤ s.length then pcS s i else (pcs s, s.length + 1)
theorem pcX_len (s : List UInt8) (i : Nat) : (pcX s i).1.length ≤ s.length + 1 := by
  unfold pcX
  split
  · rename_i h; have := pcS_length s i; omega
  · exact pcs_length s
theorem pcX_from (s : List UInt8) (i : Nat) (h : i ≤ s.length) : (pcX s i).2 ≤ i := by unfold pcX; rw [if_pos h]; exact pcS_le s i
theorem pcX_cut {s : List UInt8} {i f : Nat} {out : List (List UInt8)} (h : pcX s i = (out, f)) (hi : i < s.length) (h47 : s.getD i 0 = 47) : pcX s (i + 1) = (out ++ [(s.drop f).take (i - f)], i + 1) := by
  unfold pcX at h ⊢
  rw [if_pos (by omega)] at h ⊢
  rw [pcS_at h47, h]
theorem pcX_on {s : List UInt8} {i f : Nat} {out : List (List UInt8)} (h : pcX s i = (out, f)) (hi : i < s.length) (h47 : s.getD i 0 ≠ 47) : pcX s (i + 1) = (out, f) := by
  unfold pcX at h ⊢
  rw [if_pos (by omega)] at h ⊢
  rw [pcS_not h47, h]
theorem pcX_end {s : List UInt8} {f : Nat} {out : List (List UInt8)} (h : pcX s s.length = (out, f)) : pcX s (s.length + 1) = (out ++ [(s.drop f).take (s.length - f)], s.length + 1) := by
  unfold pcX at h ⊢
  rw [if_pos (by omega)] at h
  rw [if_neg (by omega)]
  unfold pcs
  rw [h, List.take_of_length_le (by simp)]

end Go.Proofs.YtkahldoognofeaaDoor
