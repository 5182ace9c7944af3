/-
  The document's reading of a rune, by its bytes' number: plain facts.
-/
import Derived.Test.YtkahldoognofeaaDoorUtfEnc0
namespace Go.Proofs.YtkahldoognofeaaDoor
open Go.RowKit

/-- A byte of a list, as a number. -/
def nb (l : List UInt8) (i : Nat) : Int := ((l.getD i 0).toNat : Int)

/-- The number that so many bytes stand for. -/
def vOf (j : Nat) (l : List UInt8) : Int :=
  if j = 1 then nb l 0
  else if j = 2 then (nb l 0 - 192) * 64 + nb l 1 - 128
  else if j = 3 then (nb l 0 - 224) * 4096 + (nb l 1 - 128) * 64 + nb l 2 - 128
  else (nb l 0 - 240) * 262144 + (nb l 1 - 128) * 4096 + (nb l 2 - 128) * 64 + nb l 3 - 128

theorem nb_range (l : List UInt8) (i : Nat) : 0 ≤ nb l i ∧ nb l i ≤ 255 := by
  have := (l.getD i 0).toNat_lt
  unfold nb
  omega

theorem getD_take {l e : List UInt8} {k i : Nat} (h : l.take k = e) (hi : i < k) : l.getD i 0 = e.getD i 0 := by
  rw [← h]
  simp [List.getD_eq_getElem?_getD, hi]

theorem vOf_dec {l : List UInt8} {n j : Nat} (h : decF l = some (n, j)) : vOf j l = (n : Int) := by
  obtain ⟨hm, hk, _, ht⟩ := decF_some h
  have hn := mayF_lt hm
  rw [encF_length] at hk
  by_cases h1 : n < 128
  · rw [if_pos h1] at hk
    subst hk
    unfold encF at ht
    rw [if_pos h1] at ht
    have e0 := getD_take (i := 0) ht (by omega)
    unfold vOf nb
    rw [if_pos rfl, e0]
    simp only [List.getD_cons_zero]
    rw [ofNat_toNat n (by omega)]
  · rw [if_neg h1] at hk
    by_cases h2 : n < 2048
    · rw [if_pos h2] at hk
      subst hk
      unfold encF at ht
      rw [if_neg h1, if_pos h2] at ht
      have e0 := getD_take (i := 0) ht (by omega)
      have e1 := getD_take (i := 1) ht (by omega)
      unfold vOf nb
      rw [if_neg (by omega), if_pos rfl, e0, e1]
      simp only [List.getD_cons_zero, List.getD_cons_succ]
      rw [ofNat_toNat (192 + n / 64) (by omega), ofNat_toNat (128 + n % 64) (by omega)]
      omega
    · rw [if_neg h2] at hk
      by_cases h3 : n < 65536
      · rw [if_pos h3] at hk
        subst hk
        unfold encF at ht
        rw [if_neg h1, if_neg h2, if_pos h3] at ht
        have e0 := getD_take (i := 0) ht (by omega)
        have e1 := getD_take (i := 1) ht (by omega)
        have e2 := getD_take (i := 2) ht (by omega)
        unfold vOf nb
        rw [if_neg (by omega), if_neg (by omega), if_pos rfl, e0, e1, e2]
        simp only [List.getD_cons_zero, List.getD_cons_succ]
        rw [ofNat_toNat (224 + n / 4096) (by omega), ofNat_toNat (128 + n / 64 % 64) (by omega), ofNat_toNat (128 + n % 64) (by omega)]
        omega
      · rw [if_neg h3] at hk
        subst hk
        unfold encF at ht
        rw [if_neg h1, if_neg h2, if_neg h3] at ht
        have e0 := getD_take (i := 0) ht (by omega)
        have e1 := getD_take (i := 1) ht (by omega)
        have e2 := getD_take (i := 2) ht (by omega)
        have e3 := getD_take (i := 3) ht (by omega)
        unfold vOf nb
        rw [if_neg (by omega), if_neg (by omega), if_neg (by omega), e0, e1, e2, e3]
        simp only [List.getD_cons_zero, List.getD_cons_succ]
        rw [ofNat_toNat (240 + n / 262144) (by omega), ofNat_toNat (128 + n / 4096 % 64) (by omega), ofNat_toNat (128 + n / 64 % 64) (by omega), ofNat_toNat (128 + n % 64) (by omega)]
        omega

/-- No rune of less than so many bytes stands there. -/
def NoneTo (l : List UInt8) (j : Nat) : Prop := ∀ i, i < j → ∀ m, decF l ≠ some (m, i)

theorem noneTo_one (l : List UInt8) : NoneTo l 1 := by
  intro i hi m h
  obtain ⟨_, hk, _, _⟩ := decF_some h
  have := encF_pos m
  omega
theorem NoneTo.bad {l : List UInt8} {j : Nat} (h : NoneTo l j) (hv : Lib.validRune (vOf j l) = false) : NoneTo l (j + 1) := by
  intro i hi m hd
  rcases Nat.lt_or_ge i j with h1 | h1
  · exact h i h1 m hd
  · obtain rfl : i = j := by omega
    rw [vOf_dec hd, valid_nat] at hv
    rw [(decF_some hd).1] at hv
    cases hv
theorem NoneTo.ne {l : List UInt8} {j m : Nat} (h : NoneTo l j) (hv : vOf j l = (m : Int)) (hne : l.take j ≠ encF m) : NoneTo l (j + 1) := by
  intro i hi n hd
  rcases Nat.lt_or_ge i j with h1 | h1
  · exact h i h1 n hd
  · obtain rfl : i = j := by omega
    rw [vOf_dec hd] at hv
    obtain rfl : n = m := by omega
    exact hne (decF_some hd).2.2.2
theorem NoneTo.end {l : List UInt8} {j : Nat} (h : NoneTo l j) (hj : j = 5 ∨ l.length < j) : decF l = none := by
  cases hd : decF l with
  | none => rfl
  | some p =>
    obtain ⟨n, k⟩ := p
    obtain ⟨_, hk, hle, _⟩ := decF_some hd
    have := encF_pos n
    exact absurd hd (h k (by omega) n)
theorem dec_found {l : List UInt8} {j m : Nat} (hm : mayF m = true) (hj : j ≤ l.length) (h : l.take j = encF m) : decF l = some (m, j) := by
  have hk : (encF m).length = j := by rw [← h]; simp; omega
  have := decF_of hm (by rw [hk]; exact h)
  rw [hk] at this
  exact this

/-- What the document's One answers. -/
def oneF (l : List UInt8) : Nat × Nat := match decF l with | some p => p | none => (0, 0)

theorem extract_list (s : ByteArray) (p q : Nat) : s.extract p q = strB ((s.data.toList.drop p).take (q - p)) := by
  apply ByteArray.ext
  simp only [strB, ByteArray.data_extract]
  apply Array.ext'
  simp [Array.toList_extract, List.extract]

#print axioms vOf_dec
end Go.Proofs.YtkahldoognofeaaDoor
