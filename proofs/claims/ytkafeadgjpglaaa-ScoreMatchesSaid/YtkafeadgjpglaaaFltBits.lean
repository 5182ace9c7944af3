/-
  Floats' bits, turned such that they rise, plainly.
-/
import Derived.Test.YtkafeadgjpglaaaFlt
import Derived.Laws.Entries
import Derived.Laws.Bits64
namespace Go.Proofs.Ytkafeadgjpglaaa
open Ieee

theorem sw_val : double.signWeight = 9223372036854775808 := by decide
theorem inf_val : double.infRung = 9218868437227405312 := by decide

theorem negB_iff {b : Nat} (hb : b < 18446744073709551616) : negB b = decide (9223372036854775808 ≤ b) := by
  unfold negB
  rw [sw_val, Bool.eq_iff_iff, beq_iff_eq, decide_eq_true_iff]
  omega

theorem and_top (b : Nat) : b &&& 2 ^ 63 = if b.testBit 63 then 2 ^ 63 else 0 := by
  apply Nat.eq_of_testBit_eq
  intro i
  rw [Nat.testBit_and, Nat.testBit_two_pow]
  by_cases hi : 63 = i
  · subst hi
    cases b.testBit 63
    · simp
    · rw [if_pos rfl, Nat.testBit_two_pow]; simp
  · cases b.testBit 63
    · simp [hi]
    · rw [if_pos rfl, Nat.testBit_two_pow]; simp [hi]
theorem bits_and_sign {b : Nat} (hb : b < 18446744073709551616) : (bits .and .u64 (b : Int) 9223372036854775808 != 0) = negB b := by
  rw [negB_iff hb]
  have e : bits .and .u64 (b : Int) 9223372036854775808 = if 9223372036854775808 ≤ b then 9223372036854775808 else 0 := by
    unfold bits
    simp only
    rw [BitVec.toNat_and]
    have h1 : (BitVec.ofInt IntKind.u64.bits (b : Int)).toNat = b := by
      rw [BitVec.ofInt_natCast, BitVec.toNat_ofNat]
      exact Nat.mod_eq_of_lt hb
    have h2 : (BitVec.ofInt IntKind.u64.bits 9223372036854775808).toNat = 2 ^ 63 := by decide
    rw [h1, h2, and_top, Nat.testBit_eq_decide_div_mod_eq]
    by_cases h : 9223372036854775808 ≤ b
    · have h3 : b / 2 ^ 63 % 2 = 1 := by omega
      rw [if_pos h, h3]
      decide
    · have h3 : b / 2 ^ 63 % 2 = 0 := by omega
      rw [if_neg h, h3]
      decide
  rw [e]
  by_cases h : 9223372036854775808 ≤ b <;> simp [h]

theorem bits_not {b : Nat} (hb : b < 18446744073709551616) : bits .xor .u64 IntKind.u64.max (b : Int) = ((18446744073709551615 - b : Nat) : Int) := by
  unfold bits
  simp only
  have h1 : (BitVec.ofInt IntKind.u64.bits (b : Int)).toNat = b := by
    rw [BitVec.ofInt_natCast, BitVec.toNat_ofNat]
    exact Nat.mod_eq_of_lt hb
  have h2 : BitVec.ofInt IntKind.u64.bits IntKind.u64.max = BitVec.allOnes IntKind.u64.bits := by decide
  rw [h2, BitVec.allOnes_xor, BitVec.toNat_not, h1, IntKind.wrap_u64]
  have h3 : (2 : Nat) ^ IntKind.u64.bits = 18446744073709551616 := by decide
  rw [h3]
  omega

theorem bits_or_sign {b : Nat} (hb : b < 9223372036854775808) : bits .or .u64 (b : Int) 9223372036854775808 = ((b + 9223372036854775808 : Nat) : Int) := by
  unfold bits
  simp only
  rw [BitVec.toNat_or]
  have h1 : (BitVec.ofInt IntKind.u64.bits (b : Int)).toNat = b := by
    rw [BitVec.ofInt_natCast, BitVec.toNat_ofNat]
    exact Nat.mod_eq_of_lt (Nat.lt_trans hb (by decide))
  have h2 : (BitVec.ofInt IntKind.u64.bits 9223372036854775808).toNat = 2 ^ 63 * 1 := by decide
  rw [h1, h2, Nat.or_comm, ← Nat.two_pow_add_eq_or_of_lt (i := 63) hb, IntKind.wrap_u64]
  omega

/-- The bits, turned such that they rise. -/
def riseF (b : Nat) : Nat := if nanB b then 18446744073709551615 else if negB b then 18446744073709551615 - b else b + 9223372036854775808
theorem riseF_lt {b : Nat} (hb : b < 18446744073709551616) : riseF b < 18446744073709551616 := by
  unfold riseF
  split
  · omega
  · split
    · omega
    · rename_i h
      have := negB_iff hb
      rw [this] at h
      simp at h
      omega

def intO (a b : Int) : Int := if a < b then -1 else if b < a then 1 else 0
/-- Which of two floats stands ahead. -/
def ordF (x y : Nat) : Int := intO (riseF x) (riseF y)

theorem ordF_range (x y : Nat) : ordF x y = -1 ∨ ordF x y = 0 ∨ ordF x y = 1 := by
  unfold ordF intO
  split
  · exact .inl rfl
  · split
    · exact .inr (.inr rfl)
    · exact .inr (.inl rfl)
theorem ordF_anti (x y : Nat) : ordF y x = - ordF x y := by
  unfold ordF intO
  split <;> split <;> first | rfl | omega | (split <;> first | rfl | omega)
theorem ordF_self (x : Nat) : ordF x x = 0 := by unfold ordF intO; rw [if_neg (by omega), if_neg (by omega)]
theorem ordF_trans {x y z : Nat} (h1 : ordF x y ≤ 0) (h2 : ordF y z ≤ 0) : ordF x z ≤ 0 := by
  unfold ordF intO at *
  repeat' split at h1
  all_goals repeat' split at h2
  all_goals repeat' split
  all_goals omega

/-- One number stands ahead of another one. -/
def belowB (x y : Nat) : Bool := !nanB x && !nanB y && decide (riseF x < riseF y)

theorem sr_val {b : Nat} (hb : b < 18446744073709551616) : sr b = if negB b then -((b - 9223372036854775808 : Nat) : Int) else (b : Int) := by
  unfold sr sg
  have h := negB_iff hb
  cases hn : negB b
  · rw [hn] at h
    have h2 : ¬ 9223372036854775808 ≤ b := of_decide_eq_false h.symm
    simp only [Bool.false_eq_true, if_false]
    rw [sw_val, Nat.mod_eq_of_lt (by omega)]
  · rw [hn] at h
    have h2 : 9223372036854775808 ≤ b := of_decide_eq_true h.symm
    simp only [if_true]
    rw [sw_val]
    have : b % 9223372036854775808 = b - 9223372036854775808 := by omega
    rw [this]

theorem nan_zero : nanB 0 = false := by decide
theorem sr_zero : sr 0 = 0 := by decide

/-- As the document has it: less, or -0 ahead of +0. -/
theorem belowB_is {x y : Nat} (hx : x < 18446744073709551616) (hy : y < 18446744073709551616) :
    belowB x y = ((double.order x y == some .lt) || ((double.order x 0 == some .eq) && (double.order y 0 == some .eq) && !(decide (x = 0)) && decide (y = 0))) := by
  rw [order_lt, order_eq, order_eq, nan_zero, sr_zero]
  unfold belowB
  cases hnx : nanB x
  · cases hny : nanB y
    · simp only [Bool.not_false, Bool.true_and]
      rw [sr_val hx, sr_val hy]
      unfold riseF
      rw [hnx, hny]
      have nx := negB_iff hx
      have ny := negB_iff hy
      cases hgx : negB x <;> cases hgy : negB y <;> rw [hgx] at nx <;> rw [hgy] at ny
      all_goals
        first
          | have nx' := of_decide_eq_false nx.symm
          | have nx' := of_decide_eq_true nx.symm
        first
          | have ny' := of_decide_eq_false ny.symm
          | have ny' := of_decide_eq_true ny.symm
        simp only [Bool.false_eq_true, if_false, if_true]
        rw [Bool.eq_iff_iff]
        simp only [Bool.or_eq_true, Bool.and_eq_true, decide_eq_true_iff, Bool.not_eq_true', decide_eq_false_iff_not]
        omega
    · simp
  · simp
#print axioms belowB_is

theorem nan_rise {x : Nat} (h : nanB x = true) : riseF x = 18446744073709551615 := by unfold riseF; rw [if_pos h]
theorem num_rise {x : Nat} (hx : x < 18446744073709551616) (h : nanB x = false) : riseF x < 18446744073709551615 := by
  unfold riseF
  rw [if_neg (by rw [h]; simp)]
  have hn := negB_iff hx
  have h2 : ¬ double.infRung < x % double.signWeight := by unfold nanB at h; exact of_decide_eq_false h
  rw [sw_val, inf_val] at h2
  cases hg : negB x
  · rw [hg] at hn
    have := of_decide_eq_false hn.symm
    simp only [Bool.false_eq_true, if_false]
    omega
  · rw [hg] at hn
    have := of_decide_eq_true hn.symm
    simp only [if_true]
    omega
end Go.Proofs.Ytkafeadgjpglaaa
