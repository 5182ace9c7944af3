/-
  The walks of a digit's number, the program's and the document's; HasPrefix.
-/
import Derived.Test.YtkjgcgdfofheeaaHexMath
import Derived.Test.YtkjgcgdfofheeaaIds
import Derived.Lib.Bytealg
namespace Go.Proofs.Ytkjgcgdfofheeaa
open Go.RowKit

theorem retI {a b : Int} (h : a = b) : Ending.returned (.int .i64 a) = .returned (.int .i64 b) := by rw [h]

theorem indexByte_digits (c : UInt8) : Lib.indexByte [48, 49, 50, 51, 52, 53, 54, 55, 56, 57, 97, 98, 99, 100, 101, 102] c = digV c := by
  have h : ∀ n, n < 256 → Lib.indexByte [48, 49, 50, 51, 52, 53, 54, 55, 56, 57, 97, 98, 99, 100, 101, 102] (UInt8.ofNat n) = digV (UInt8.ofNat n) := by decide +kernel
  have := h c.toNat c.toNat_lt
  simpa using this

/-- The digits, as the program has them. -/
def digitsS : ByteArray := ⟨#[48, 49, 50, 51, 52, 53, 54, 55, 56, 57, 97, 98, 99, 100, 101, 102]⟩

set_option maxRecDepth 100000 in
set_option maxHeartbeats 1000000 in
theorem liteIndex_any (s : ByteArray) (c : UInt8) (w : World) :
    Calls Try.prog 35 #[.string s, .int .u8 (c.toNat : Int)] w fun e w' => e = .returned (.int .i64 (Lib.indexByte s.data.toList c)) ∧ w = w' := by
  go_enter Try.func35, Try.ntmps35
  go_wp2
  rw [run_callFunc_extern Try.func37 (by kernel_rfl) (by kernel_rfl) (by kernel_rfl) (e := Extern.BytealgIndexByte.indexByte) (by kernel_rfl), Lib.run_indexByteString]
  simp only [Result.andThen]
  rw [Oper.upon_value]
  go_wp2
  go_ret
  exact ⟨retI (by congr 1), rfl⟩

set_option maxRecDepth 100000 in
set_option maxHeartbeats 400000 in
theorem index_any (c : UInt8) (w : World) :
    Calls Try.prog 31 #[.string digitsS, .int .u8 (c.toNat : Int)] w fun e w' => e = .returned (.int .i64 (digV c)) ∧ w = w' := by
  go_enter Try.func31, Try.ntmps31
  go_wp2_with (go_at_call 35; go_must (refine (liteIndex_any _ c _).mono ?_); rintro e w1 ⟨rfl, rfl⟩)
  go_ret
  exact ⟨retI (indexByte_digits c), rfl⟩

/-- A digit's number at a place of a text. -/
def dAt (l : List UInt8) (k : Nat) : Int := if k < l.length then digV (l.getD k 0) else -1

set_option maxRecDepth 100000 in
set_option maxHeartbeats 400000 in
theorem digit_at (g k : Nat) (s : ByteArray) (w : World) (hc : w.cell? ⟨g, 0, none⟩ = some (.string s)) :
    Calls Try.prog 30 #[.int .i64 (k : Int), .pointer (some ⟨g, 0, none⟩)] w fun e w' => e = .returned (.int .i64 (dAt s.data.toList k)) ∧ w = w' := by
  by_cases hk : k < s.size
  · have HD := Lib.hid (show dAt s.data.toList k = digV (s.data[k]'hk) by unfold dAt; rw [if_pos (by simpa using hk)]; simp only [List.getD_eq_getElem?_getD, Array.getElem?_toList]; rw [Array.getElem?_eq_getElem hk]; rfl)
    go_enter Try.func30, Try.ntmps30
    go_wp2_with (go_at_call 31; go_must (refine (index_any _ _).mono ?_); rintro e w1 ⟨rfl, rfl⟩)
    go_ret
    exact ⟨retI HD.out.symm, rfl⟩
  · have hd : dAt s.data.toList k = -1 := by unfold dAt; rw [if_neg (by simpa using hk)]
    have HD := Lib.hid hd
    clear hd
    go_enter Try.func30, Try.ntmps30
    go_wp2
    go_ret
    exact ⟨retI HD.out.symm, rfl⟩

set_option maxRecDepth 100000 in
set_option maxHeartbeats 400000 in
theorem refDigit_any (c : UInt8) (w : World) :
    Calls Try.prog 32 #[.int .u8 (c.toNat : Int)] w fun e w' => e = .returned (.int .i64 (digV c)) ∧ w = w' := by
  have hc := c.toNat_lt
  obtain ⟨d, hd⟩ : ∃ d, d = digV c := ⟨_, rfl⟩
  have HD := Lib.hid hd
  unfold digV at hd
  by_cases h1 : 48 ≤ c.toNat
  · by_cases h2 : c.toNat ≤ 57
    · rw [if_pos ⟨h1, h2⟩] at hd
      have HE := Lib.hid hd
      rw [← HD.out]
      clear hd
      go_enter Try.func32, Try.ntmps32
      go_wp2
      go_ret
      exact ⟨retI (by rw [HE.out]), rfl⟩
    · rw [if_neg (by omega)] at hd
      by_cases h3 : 97 ≤ c.toNat
      · by_cases h4 : c.toNat ≤ 102
        · rw [if_pos ⟨h3, h4⟩] at hd
          have HE := Lib.hid hd
          rw [← HD.out]
          clear hd
          go_enter Try.func32, Try.ntmps32
          go_wp2
          go_ret
          exact ⟨retI (by rw [HE.out]; omega), rfl⟩
        · rw [if_neg (by omega)] at hd
          have HE := Lib.hid hd
          rw [← HD.out]
          clear hd
          go_enter Try.func32, Try.ntmps32
          go_wp2
          go_ret
          exact ⟨retI (by rw [HE.out]), rfl⟩
      · rw [if_neg (by omega)] at hd
        have HE := Lib.hid hd
        rw [← HD.out]
        clear hd
        go_enter Try.func32, Try.ntmps32
        go_wp2
        go_ret
        exact ⟨retI (by rw [HE.out]), rfl⟩
  · rw [if_neg (by omega), if_neg (by omega)] at hd
    have HE := Lib.hid hd
    rw [← HD.out]
    clear hd
    go_enter Try.func32, Try.ntmps32
    go_wp2
    go_ret
    exact ⟨retI (by rw [HE.out]), rfl⟩
#print axioms refDigit_any
end Go.Proofs.Ytkjgcgdfofheeaa
