/-
  Plain facts on the bytes of a number (LEB128): what is written, what is read, that both are inverse. No program is named here.
-/
import Derived.Below
namespace Go.Proofs.Ytheigemfbcgjcaa

/-- The bytes of a number. -/
def numF (n : Nat) : List UInt8 := if n < 128 then [UInt8.ofNat n] else UInt8.ofNat (n % 128 + 128) :: numF (n / 128)
  termination_by n
  decreasing_by omega

/-- Reading a number: so many bytes at most, the place, what was read so far, the bytes that are left. -/
def getGo : Nat → Nat → Nat → List UInt8 → Option (Nat × Nat)
  | 0, _, _, _ => none
  | _ + 1, _, _, [] => none
  | f + 1, i, acc, c :: r =>
    if 128 ≤ c.toNat then getGo f (i + 1) (acc + (c.toNat - 128) * 2 ^ (7 * i)) r
    else if c.toNat = 0 ∧ 0 < i then none else some (acc + c.toNat * 2 ^ (7 * i), i + 1)

theorem numF_lt (n : Nat) (h : n < 128) : numF n = [UInt8.ofNat n] := by rw [numF, if_pos h]
theorem numF_ge (n : Nat) (h : 128 ≤ n) : numF n = UInt8.ofNat (n % 128 + 128) :: numF (n / 128) := by rw [numF, if_neg (by omega)]

theorem byte_back (c : UInt8) : UInt8.ofNat c.toNat = c := by simp

theorem pow_step (i : Nat) : 2 ^ (7 * (i + 1)) = 128 * 2 ^ (7 * i) := by
  rw [show 7 * (i + 1) = 7 * i + 7 from by omega, Nat.pow_add]; omega

theorem getGo_num (f : Nat) : ∀ (i acc : Nat) (l : List UInt8) (n u : Nat), getGo f i acc l = some (n, u) →
    i < u ∧ u - i ≤ l.length ∧ ∃ m, n = acc + m * 2 ^ (7 * i) ∧ (0 < i → 0 < m) ∧ l.take (u - i) = numF m := by
  induction f with
  | zero => intro i acc l n u h; simp [getGo] at h
  | succ f ih =>
    intro i acc l n u h
    cases l with
    | nil => simp [getGo] at h
    | cons c r =>
      by_cases hc : 128 ≤ c.toNat
      · rw [getGo, if_pos hc] at h
        obtain ⟨h1, h2, m, hn, hm, ht⟩ := ih _ _ _ _ _ h
        have hm' := hm (by omega)
        have hlt : c.toNat < 256 := c.toNat_lt
        refine ⟨by omega, by simp; omega, (c.toNat - 128) + 128 * m, ?_, fun _ => by omega, ?_⟩
        · rw [hn, pow_step, Nat.add_mul, Nat.add_assoc]
          congr 2
          rw [← Nat.mul_assoc, Nat.mul_comm m 128]
        · rw [numF_ge _ (by omega), show u - i = (u - (i + 1)) + 1 from by omega, List.take_succ_cons, ht]
          rw [show ((c.toNat - 128) + 128 * m) % 128 + 128 = c.toNat from by omega, byte_back, show ((c.toNat - 128) + 128 * m) / 128 = m from by omega]
      · rw [getGo, if_neg hc] at h
        by_cases h0 : c.toNat = 0 ∧ 0 < i
        · rw [if_pos h0] at h; cases h
        · rw [if_neg h0] at h
          simp only [Option.some.injEq, Prod.mk.injEq] at h
          obtain ⟨rfl, rfl⟩ := h
          refine ⟨by omega, by simp, c.toNat, rfl, fun hi => by omega, ?_⟩
          rw [numF_lt _ (by omega), byte_back, show i + 1 - i = 1 from by omega]; rfl

theorem getGo_lt (f : Nat) : ∀ (i acc : Nat) (l : List UInt8) (n u : Nat), f + i = 9 → acc < 2 ^ (7 * i) → getGo f i acc l = some (n, u) → n < 2 ^ 63 := by
  induction f with
  | zero => intro i acc l n u _ _ h; simp [getGo] at h
  | succ f ih =>
    intro i acc l n u hi ha h
    have hp : 2 ^ (7 * i) * 2 ^ (7 * (8 - i)) = 2 ^ 56 := by rw [← Nat.pow_add]; congr 1; omega
    cases l with
    | nil => simp [getGo] at h
    | cons c r =>
      by_cases hc : 128 ≤ c.toNat
      · rw [getGo, if_pos hc] at h
        have hlt : c.toNat < 256 := c.toNat_lt
        refine ih _ _ _ _ _ (by omega) ?_ h
        rw [pow_step]
        have : (c.toNat - 128) * 2 ^ (7 * i) ≤ 127 * 2 ^ (7 * i) := Nat.mul_le_mul_right _ (by omega)
        omega
      · rw [getGo, if_neg hc] at h
        by_cases h0 : c.toNat = 0 ∧ 0 < i
        · rw [if_pos h0] at h; cases h
        · rw [if_neg h0] at h
          simp only [Option.some.injEq, Prod.mk.injEq] at h
          obtain ⟨rfl, rfl⟩ := h
          have h1 : c.toNat * 2 ^ (7 * i) ≤ 127 * 2 ^ (7 * i) := Nat.mul_le_mul_right _ (by omega)
          have h2 : 2 ^ (7 * i) ≤ 2 ^ 56 := Nat.pow_le_pow_right (by omega) (by omega)
          have h3 : (2 : Nat) ^ 63 = 128 * 2 ^ 56 := by decide
          omega

/-- What was written is read. -/
theorem getGo_back (f : Nat) : ∀ (i acc m : Nat) (rest : List UInt8), m < 2 ^ (7 * f) → 0 < f → (0 < i → 0 < m) →
    getGo f i acc (numF m ++ rest) = some (acc + m * 2 ^ (7 * i), i + (numF m).length) := by
  induction f with
  | zero => intro i acc m rest _ h0 _; omega
  | succ f ih =>
    intro i acc m rest hm _ hi
    by_cases h : m < 128
    · rw [numF_lt _ h]
      have e : (UInt8.ofNat m).toNat = m := by simp; omega
      simp only [List.cons_append, List.nil_append, getGo, e, List.length_singleton]
      rw [if_neg (by omega), if_neg (by omega)]
    · rw [numF_ge _ (by omega)]
      have e : (UInt8.ofNat (m % 128 + 128)).toNat = m % 128 + 128 := by simp; omega
      have hm7 : m < 2 ^ (7 * f) * 128 := by rw [pow_step] at hm; omega
      have hf : 0 < f := by
        rcases Nat.eq_zero_or_pos f with h0 | h0
        · subst h0; omega
        · exact h0
      simp only [List.cons_append, getGo, e, List.length_cons]
      rw [if_pos (by omega), ih _ _ _ _ (by omega) hf (fun _ => by omega)]
      have hx : acc + (m % 128 + 128 - 128) * 2 ^ (7 * i) + m / 128 * 2 ^ (7 * (i + 1)) = acc + m * 2 ^ (7 * i) := by
        rw [pow_step, ← Nat.mul_assoc, Nat.add_assoc, ← Nat.add_mul]
        congr 2; omega
      rw [hx, show i + 1 + (numF (m / 128)).length = i + ((numF (m / 128)).length + 1) from by omega]

/-- What Get answers at a place of bytes. -/
def getR (l : List UInt8) (at_ : Nat) : Nat × Nat × Nat :=
  match getGo 9 0 0 (l.drop at_) with
  | none => (0, 0, 6)
  | some (n, u) => (n, at_ + u, 0)

theorem getGo_nil (f i acc : Nat) (l : List UInt8) (h : l.length = 0) : getGo f i acc l = none := by
  have : l = [] := List.length_eq_zero_iff.1 h
  subst this
  cases f <;> rfl

theorem getGo_zero (i acc : Nat) (l : List UInt8) : getGo 0 i acc l = none := rfl

theorem drop_cons (l : List UInt8) (k : Nat) (h : k < l.length) : l.drop k = l.getD k 0 :: l.drop (k + 1) := by
  rw [List.drop_eq_getElem_cons h]; simp [h]

theorem numF_length_pos (n : Nat) : 0 < (numF n).length := by
  by_cases h : n < 128
  · rw [numF_lt _ h]; simp
  · rw [numF_ge _ (by omega)]; simp

theorem numF_length_le (k : Nat) : ∀ n, n < 2 ^ (7 * k) → 0 < k → (numF n).length ≤ k := by
  induction k with
  | zero => intro n _ h; omega
  | succ k ih =>
    intro n hn _
    by_cases h : n < 128
    · rw [numF_lt _ h]; simp
    · rw [numF_ge _ (by omega)]
      have h7 : n < 2 ^ (7 * k) * 128 := by rw [pow_step] at hn; omega
      have hk : 0 < k := by
        rcases Nat.eq_zero_or_pos k with h0 | h0
        · subst h0; omega
        · exact h0
      have := ih (n / 128) (by omega) hk
      simp; omega

theorem numF_length_le9 (n : Nat) (h : n < 2 ^ 63) : (numF n).length ≤ 9 := numF_length_le 9 n (by simpa using h) (by omega)

#print axioms getGo_back
end Go.Proofs.Ytheigemfbcgjcaa
