/-
  The walks of the document's May and of its Bytes.
-/
import Derived.Test.YtkahldoognofeaaDoorUtfDec
import Derived.Lib.Small
import Derived.Test.YtkahldoognofeaaDoorBytes
namespace Go.Proofs.YtkahldoognofeaaDoor
open Go.RowKit

theorem valid_nat (n : Nat) : Lib.validRune (n : Int) = mayF n := by
  rw [Bool.eq_iff_iff, mayF_iff]
  simp [Lib.validRune]
  omega

theorem valid_of (r : Int) (h : Lib.validRune r = true) : ∃ n : Nat, r = (n : Int) ∧ mayF n = true := by
  have h0 : 0 ≤ r := by simp [Lib.validRune] at h; omega
  obtain ⟨n, rfl⟩ := Int.eq_ofNat_of_zero_le h0
  exact ⟨n, rfl, by rw [← valid_nat]; exact h⟩

theorem mayF_lt {n : Nat} (h : mayF n = true) : n ≤ 1114111 := by rw [mayF_iff] at h; omega

/-- The model's own bytes of a rune. -/
theorem encode_eq (n : Nat) (h : mayF n = true) : Utf8.encode (n : Int) = strB (encF n) := by
  have hv : Utf8.valid (n : Int) = true := by
    rw [mayF_iff] at h
    simp [Utf8.valid]
    omega
  unfold Utf8.encode encF
  simp only [hv, if_true, Int.toNat_natCast]
  repeat' split
  all_goals rfl

theorem retB {a b : Bool} (h : a = b) : Ending.returned (.bool a) = .returned (.bool b) := by rw [h]

theorem own_new (w : World) (l : List UInt8) (h : l.length ≤ 100) : Own (w.alloc (.cells (l.map B).toArray 5)) w.heap.size (.slice (some ⟨w.heap.size, 0, none⟩) l.length l.length) l := by
  refine ⟨by simp, .inr ⟨w.heap.size, l.length, (l.map B).toArray, rfl, Nat.le_refl _, heap_alloc_new w _, Nat.le_refl _, by unfold maxLen; omega, by simp, List.take_of_length_le (by simp)⟩⟩

theorem B_ofNat (n : Nat) (z : Int) (h : n < 256) (hz : z = (n : Int)) : B (UInt8.ofNat n) = .int .u8 z := by
  unfold B; rw [ofNat_toNat n h, hz]

theorem made_new {w : World} {l : List UInt8} {vs : Array Value} {k : Nat} (hv : (l.map B).toArray = vs) (hk : l.length = k) (h : k ≤ 100) :
    Made w l (.returned (.slice (some ⟨w.heap.size, 0, none⟩) k k)) (w.alloc (.cells vs 5)) := by
  subst hv hk
  exact ⟨_, _, _, rfl, own_new w l h, (Below.refl _ _).alloc (Nat.le_refl _) _⟩

end Go.Proofs.YtkahldoognofeaaDoor
