/-
  Sorting places by merging runs: each run holds just the places of its part of the row.
-/
import Derived.Test.YtmenhbdapikpeaaSortMathG
namespace Go.Proofs.Ytmenhbdapikpeaa

/-- Each part of so many has the same elements. -/
def SegP (q : Nat) (L l : List Nat) : Prop := ∀ i, ((L.drop (i * q)).take q).Perm ((l.drop (i * q)).take q)
theorem segP_one (l : List Nat) (q : Nat) : SegP q l l := fun _ => List.Perm.refl _
theorem segP_two {q : Nat} {L l : List Nat} (h : SegP q L l) (i : Nat) : ((L.drop (i * (2 * q))).take (2 * q)).Perm ((l.drop (i * (2 * q))).take (2 * q)) := by
  have e : ∀ M : List Nat, (M.drop (i * (2 * q))).take (2 * q) = (M.drop (i * 2 * q)).take q ++ (M.drop ((i * 2 + 1) * q)).take q := fun M => by
    rw [show 2 * q = q + q from by omega, List.take_add, List.drop_drop, show i * (q + q) = i * 2 * q from by rw [Nat.mul_assoc, Nat.two_mul],
      show (i * 2 + 1) * q = i * 2 * q + q from by rw [Nat.add_mul, Nat.one_mul]]
  rw [e, e]
  exact (h (i * 2)).append (h (i * 2 + 1))

/-- The parts, as far as the pass is. -/
def SegT (q t : Nat) (l R : List Nat) : Prop := ∀ i, i < t → ((R.drop (i * (2 * q))).take (2 * q)).Perm ((l.drop (i * (2 * q))).take (2 * q))
theorem segT_zero (q : Nat) (l R : List Nat) : SegT q 0 l R := fun _ h => by omega
theorem segT_step {le : Nat → Nat → Bool} {q t : Nat} {l L R : List Nat} (hs : SegP q L l) (hl : R.length = L.length) (h : SegT q t l R) (hf : t * (2 * q) < L.length) :
    SegT q (t + 1) l (R.take (t * (2 * q)) ++ (twoG le q (t * (2 * q)) L ++ R.drop (t * (2 * q) + (twoG le q (t * (2 * q)) L).length))) := by
  have hM := twoG_length le q (t * (2 * q)) L
  have hMp := (twoG_perm le q (t * (2 * q)) L).trans (segP_two hs t)
  intro i hi
  have h3 := h i
  have hF : t * (2 * q) = t * (2 * q) := rfl
  generalize hF' : t * (2 * q) = f at *
  generalize twoG le q f L = M at *
  generalize hs' : 2 * q = s at *
  have htk : (R.take f).length = f := by simp; omega
  have hcut : (M ++ R.drop (f + M.length)).take s = M := by
    by_cases hc : f + s ≤ L.length
    · rw [List.take_append_of_le_length (by omega), List.take_of_length_le (by omega)]
    · rw [List.drop_eq_nil_of_le (by omega), List.append_nil, List.take_of_length_le (by omega)]
  by_cases hit : i < t
  · have hle : i * s + s ≤ f := by
      have : (i + 1) * s ≤ t * s := Nat.mul_le_mul_right s (by omega)
      rw [Nat.add_mul, Nat.one_mul] at this
      omega
    rw [List.drop_append_of_le_length (by omega), List.take_append_of_le_length (by simp; omega), List.drop_take, List.take_take, show min s (f - i * s) = s from by omega]
    exact h3 hit
  · obtain rfl : i = t := by omega
    rw [hF']
    rw [show (R.take f ++ (M ++ R.drop (f + M.length))).drop f = M ++ R.drop (f + M.length) from by
      have := @List.drop_append _ (R.take f) (M ++ R.drop (f + M.length)) f
      rw [this, List.drop_eq_nil_of_le (by omega), htk, Nat.sub_self, List.drop_zero, List.nil_append]]
    rw [hcut]
    exact hMp
theorem segT_end {q t : Nat} {l R : List Nat} (hl : R.length = l.length) (h : SegT q t l R) (hf : l.length ≤ t * (2 * q)) : SegP (2 * q) R l := fun i => by
  by_cases hi : i < t
  · exact h i hi
  · have : t * (2 * q) ≤ i * (2 * q) := Nat.mul_le_mul_right _ (by omega)
    rw [List.drop_eq_nil_of_le (by omega), List.drop_eq_nil_of_le (by omega)]
/-- A part of the places from zero. -/
theorem mem_part {n f q x : Nat} (h : x ∈ ((List.range n).drop f).take q) : f ≤ x ∧ x < f + q ∧ x < n := by
  obtain ⟨j, hj, rfl⟩ := List.mem_iff_getElem.1 h
  simp at hj
  simp
  omega
theorem seg_apart {n q t : Nat} {L : List Nat} (h : SegP q L (List.range n)) : (∀ x ∈ (L.drop (t * (2 * q))).take q, x < n) ∧ (∀ x ∈ (L.drop (t * (2 * q) + q)).take q, x < n) ∧
    ∀ x ∈ (L.drop (t * (2 * q))).take q, ∀ y ∈ (L.drop (t * (2 * q) + q)).take q, x < y := by
  have e1 : t * (2 * q) = t * 2 * q := by rw [Nat.mul_assoc]
  have e2 : t * (2 * q) + q = (t * 2 + 1) * q := by rw [e1, Nat.add_mul, Nat.one_mul]
  have p1 : ∀ x ∈ (L.drop (t * (2 * q))).take q, t * (2 * q) ≤ x ∧ x < t * (2 * q) + q ∧ x < n := fun x hx => by
    rw [e1] at hx ⊢
    exact mem_part ((h (t * 2)).mem_iff.1 hx)
  have p2 : ∀ x ∈ (L.drop (t * (2 * q) + q)).take q, t * (2 * q) + q ≤ x ∧ x < t * (2 * q) + q + q ∧ x < n := fun x hx => by
    rw [e2] at hx ⊢
    exact mem_part ((h (t * 2 + 1)).mem_iff.1 hx)
  exact ⟨fun x hx => (p1 x hx).2.2, fun x hx => (p2 x hx).2.2, fun x hx y hy => by have := p1 x hx; have := p2 y hy; omega⟩
#print axioms seg_apart
#print axioms segT_step
#print axioms segT_end
end Go.Proofs.Ytmenhbdapikpeaa
