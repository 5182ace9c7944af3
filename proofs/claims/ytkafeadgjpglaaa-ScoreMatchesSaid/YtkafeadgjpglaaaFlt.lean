/-
  Floats by their bits, plainly: which of two stands ahead. No program is named here.
-/
import GoSem.Core.Float
import Derived.Below
namespace Go.Proofs.Ytkafeadgjpglaaa
open Ieee

section
variable (f : Format)
/-- A rung's magnitude, in units of the least place. -/
def vOf (B r : Nat) : Nat := if r < B then r else (B + r % B) * 2 ^ (r / B - 1)

theorem vOf_mono {B r s : Nat} (hB : 0 < B) (h : r < s) : vOf B r < vOf B s := by
  unfold vOf
  by_cases h1 : s < B
  · rw [if_pos (by omega), if_pos h1]; exact h
  · rw [if_neg h1]
    have p1 : 1 ≤ 2 ^ (s / B - 1) := Nat.one_le_two_pow
    have p2 : (B + s % B) * 1 ≤ (B + s % B) * 2 ^ (s / B - 1) := Nat.mul_le_mul_left _ p1
    by_cases h2 : r < B
    · rw [if_pos h2]
      omega
    · rw [if_neg h2]
      have d1 := Nat.div_add_mod r B
      have d2 := Nat.div_add_mod s B
      have m1 := Nat.mod_lt r hB
      have m2 := Nat.mod_lt s hB
      have q1 : 1 ≤ r / B := (Nat.one_le_div_iff hB).2 (by omega)
      have hle : r / B ≤ s / B := Nat.div_le_div_right (by omega)
      rcases Nat.lt_or_eq_of_le hle with h3 | h3
      · have h4 : (B + r % B) * 2 ^ (r / B - 1) < (2 * B) * 2 ^ (r / B - 1) := Nat.mul_lt_mul_of_pos_right (by omega) (Nat.two_pow_pos _)
        have h5 : (2 * B) * 2 ^ (r / B - 1) = B * 2 ^ (r / B - 1 + 1) := by rw [Nat.pow_succ]; rw [Nat.mul_comm 2 B, Nat.mul_assoc, Nat.mul_comm 2]
        have h6 : B * 2 ^ (r / B - 1 + 1) ≤ B * 2 ^ (s / B - 1) := Nat.mul_le_mul_left _ (Nat.pow_le_pow_right (by omega) (by omega))
        have h7 : B * 2 ^ (s / B - 1) ≤ (B + s % B) * 2 ^ (s / B - 1) := Nat.mul_le_mul_right _ (by omega)
        omega
      · rw [← h3] at d2 ⊢
        exact Nat.mul_lt_mul_of_pos_right (by omega) (Nat.two_pow_pos _)

theorem vOf_zero {B : Nat} (hB : 0 < B) : vOf B 0 = 0 := by unfold vOf; rw [if_pos hB]

/-- The same with its sign. -/
def sg (neg : Bool) (v : Nat) : Int := if neg then -(v : Int) else (v : Int)

theorem cmp_scale (a b : Int) (k : Nat) : compare (a * 2 ^ k) (b * 2 ^ k) = compare a b := by
  have hp : (0 : Int) < 2 ^ k := by exact_mod_cast Nat.two_pow_pos k
  simp only [compare, compareOfLessAndEq]
  have h1 : a * 2 ^ k < b * 2 ^ k ↔ a < b := ⟨fun h => Int.lt_of_mul_lt_mul_right h (Int.le_of_lt hp), fun h => Int.mul_lt_mul_of_pos_right h hp⟩
  have h2 : a * 2 ^ k = b * 2 ^ k ↔ a = b := ⟨fun h => Int.eq_of_mul_eq_mul_right (by omega) h, fun h => by rw [h]⟩
  simp only [h1, h2]

theorem signed_scale (neg : Bool) (m up k : Nat) : signed neg m up * 2 ^ k = sg neg (m * 2 ^ (up + k)) := by
  unfold signed sg
  rw [Nat.shiftLeft_eq]
  cases neg
  · simp only [Bool.false_eq_true, if_false]
    push_cast
    rw [Int.pow_add, Int.mul_assoc]
  · simp only [if_true]
    push_cast
    rw [Int.pow_add, Int.neg_mul, Int.mul_assoc]

/-- Two numbers. -/
theorem order_numbers (s t : Bool) (m n d e : Nat) (p : Int) : Datum.order (.number s m (p + d)) (.number t n (p + e)) = some (compare (sg s (m * 2 ^ d)) (sg t (n * 2 ^ e))) := by
  unfold Datum.order
  simp only
  have hb : min (p + (d : Int)) (p + (e : Int)) = p + (min d e : Nat) := by omega
  rw [hb, ← cmp_scale _ _ (min d e), signed_scale, signed_scale]
  rw [show (p + (d : Int) - (p + (min d e : Nat))).toNat + min d e = d from by omega, show (p + (e : Int) - (p + (min d e : Nat))).toNat + min d e = e from by omega]
end

/-- No number? -/
def nanB (b : Nat) : Bool := decide (double.infRung < b % double.signWeight)
/-- Its sign. -/
def negB (b : Nat) : Bool := b / double.signWeight % 2 == 1
/-- Its rung, with its sign. -/
def sr (b : Nat) : Int := sg (negB b) (b % double.signWeight)

theorem read_small {b : Nat} (h : b % double.signWeight < double.binade) : double.read b = .number (negB b) (b % double.signWeight) (double.leastPlace + (0 : Nat)) := by
  unfold Format.read negB
  simp only [h, if_true]
  rw [Int.natCast_zero, Int.add_zero]
theorem read_mid {b : Nat} (h : ¬ b % double.signWeight < double.binade) (h2 : b % double.signWeight < double.infRung) :
    double.read b = .number (negB b) (double.binade + b % double.signWeight % double.binade) (double.leastPlace + (b % double.signWeight / double.binade - 1 : Nat)) := by
  unfold Format.read negB
  simp only [h, h2, if_true, if_false]
theorem read_inf {b : Nat} (h2 : b % double.signWeight = double.infRung) : double.read b = .infinity (negB b) := by
  have h : ¬ double.infRung < double.binade := by decide
  unfold Format.read negB
  simp only [h2, h, Nat.lt_irrefl, if_true, if_false]
theorem read_nan {b : Nat} (h2 : double.infRung < b % double.signWeight) : double.read b = .nan (negB b) (b % double.signWeight - double.infRung) := by
  have h : double.binade ≤ double.infRung := by decide
  unfold Format.read negB
  simp only [show ¬ b % double.signWeight < double.binade by omega, show ¬ b % double.signWeight < double.infRung by omega, show ¬ b % double.signWeight = double.infRung by omega, if_false]

theorem binade_pos : 0 < double.binade := by decide

theorem read_number {b : Nat} (h : b % double.signWeight < double.infRung) : ∃ m d, double.read b = .number (negB b) m (double.leastPlace + (d : Nat)) ∧ m * 2 ^ d = vOf double.binade (b % double.signWeight) := by
  by_cases h1 : b % double.signWeight < double.binade
  · refine ⟨_, _, read_small h1, ?_⟩
    unfold vOf
    rw [if_pos h1, Nat.pow_zero, Nat.mul_one]
  · refine ⟨_, _, read_mid h1 h, ?_⟩
    unfold vOf
    rw [if_neg h1]

theorem sg_lt {a b : Bool} {v u V U : Nat} (h1 : v < u ↔ V < U) (h2 : u < v ↔ U < V) (h3 : v = 0 ↔ V = 0) (h4 : u = 0 ↔ U = 0) : (sg a v < sg b u ↔ sg a V < sg b U) ∧ (sg a v = sg b u ↔ sg a V = sg b U) := by
  unfold sg
  cases a <;> cases b <;> simp <;> omega

theorem vOf_iff {r s : Nat} : vOf double.binade r < vOf double.binade s ↔ r < s := by
  constructor
  · intro h
    rcases Nat.lt_trichotomy r s with h1 | h1 | h1
    · exact h1
    · subst h1; omega
    · have := vOf_mono binade_pos h1; omega
  · exact vOf_mono binade_pos
theorem vOf_eq0 {r : Nat} : vOf double.binade r = 0 ↔ r = 0 := by
  constructor
  · intro h
    rcases Nat.eq_zero_or_pos r with h1 | h1
    · exact h1
    · have := vOf_mono binade_pos h1; omega
  · rintro rfl; exact vOf_zero binade_pos

theorem cmp_lt {a b : Int} (h : a < b) : compare a b = .lt := by simp [compare, compareOfLessAndEq, h]
theorem cmp_gt {a b : Int} (h : b < a) : compare a b = .gt := by
  simp only [compare, compareOfLessAndEq]
  rw [if_neg (by omega), if_neg (by omega)]
theorem cmp_eq {a b : Int} (h : a = b) : compare a b = .eq := by
  subst h
  simp [compare, compareOfLessAndEq]

/-- Which of two numbers stands ahead: the rung decides, with its sign. -/
theorem order_sr {x y : Nat} (hx : nanB x = false) (hy : nanB y = false) : double.order x y = some (compare (sr x) (sr y)) := by
  unfold nanB at hx hy
  have hx' : ¬ double.infRung < x % double.signWeight := of_decide_eq_false hx
  have hy' : ¬ double.infRung < y % double.signWeight := of_decide_eq_false hy
  have hI : 0 < double.infRung := by decide
  unfold Format.order sr
  by_cases h1 : x % double.signWeight = double.infRung
  · rw [read_inf h1, h1]
    by_cases h2 : y % double.signWeight = double.infRung
    · rw [read_inf h2, h2]
      unfold Datum.order sg
      generalize double.infRung = I at hI ⊢
      cases negB x <;> cases negB y <;> simp only [Bool.false_eq_true, if_true, if_false]
      · rw [cmp_eq rfl]; rfl
      · rw [cmp_gt (by omega)]; rfl
      · rw [cmp_lt (by omega)]; rfl
      · rw [cmp_eq rfl]; rfl
    · have h3 : y % double.signWeight < double.infRung := by omega
      obtain ⟨m, d, hm, _⟩ := read_number h3
      rw [hm]
      unfold Datum.order sg
      generalize y % double.signWeight = r at h3 ⊢
      generalize double.infRung = I at hI h3 ⊢
      cases negB x <;> cases negB y <;> simp only [Bool.false_eq_true, if_true, if_false]
      · rw [cmp_gt (by omega)]
      · rw [cmp_gt (by omega)]
      · rw [cmp_lt (by omega)]
      · rw [cmp_lt (by omega)]
  · have h4 : x % double.signWeight < double.infRung := by omega
    obtain ⟨m, d, hm, hv⟩ := read_number h4
    by_cases h2 : y % double.signWeight = double.infRung
    · rw [read_inf h2, h2, hm]
      unfold Datum.order sg
      generalize x % double.signWeight = r at h4 ⊢
      generalize double.infRung = I at hI h4 ⊢
      cases negB x <;> cases negB y <;> simp only [Bool.false_eq_true, if_true, if_false]
      · rw [cmp_lt (by omega)]
      · rw [cmp_gt (by omega)]
      · rw [cmp_lt (by omega)]
      · rw [cmp_gt (by omega)]
    · have h3 : y % double.signWeight < double.infRung := by omega
      obtain ⟨m', d', hm', hv'⟩ := read_number h3
      rw [hm, hm', order_numbers, hv, hv']
      obtain ⟨k1, k2⟩ := sg_lt (a := negB x) (b := negB y) (vOf_iff (r := x % double.signWeight) (s := y % double.signWeight)) vOf_iff vOf_eq0 vOf_eq0
      simp only [compare, compareOfLessAndEq, k1, k2]

theorem order_nan_left {x y : Nat} (hx : nanB x = true) : double.order x y = none := by
  unfold nanB at hx
  unfold Format.order
  rw [read_nan (of_decide_eq_true hx)]
  unfold Datum.order
  rfl
theorem order_nan_right {x y : Nat} (hy : nanB y = true) : double.order x y = none := by
  unfold nanB at hy
  unfold Format.order
  rw [read_nan (of_decide_eq_true hy)]
  unfold Datum.order
  cases double.read x <;> rfl

theorem order_lt (x y : Nat) : (double.order x y == some .lt) = (!nanB x && !nanB y && decide (sr x < sr y)) := by
  cases hx : nanB x
  · cases hy : nanB y
    · rw [order_sr hx hy]
      simp only [compare, compareOfLessAndEq, Bool.not_false, Bool.true_and]
      by_cases h : sr x < sr y
      · simp [h]
      · by_cases h2 : sr x = sr y <;> simp [h, h2]
    · rw [order_nan_right hy]; simp
  · rw [order_nan_left hx]; simp
theorem order_eq (x y : Nat) : (double.order x y == some .eq) = (!nanB x && !nanB y && decide (sr x = sr y)) := by
  cases hx : nanB x
  · cases hy : nanB y
    · rw [order_sr hx hy]
      simp only [compare, compareOfLessAndEq, Bool.not_false, Bool.true_and]
      by_cases h : sr x < sr y
      · simp [h]; omega
      · by_cases h2 : sr x = sr y <;> simp [h2]
        · simp [h]
    · rw [order_nan_right hy]; simp
  · rw [order_nan_left hx]; simp
theorem order_self_ne (x : Nat) : (double.order x x != some .eq) = nanB x := by
  unfold bne
  rw [order_eq]
  cases nanB x <;> simp
#print axioms order_lt
end Go.Proofs.Ytkafeadgjpglaaa
