/-
  Sorting numbers by merging runs, in any order that is total: plainly. And the order of keys' places.
-/
import Derived.Test.YtipoielcmaegaaaGreatDoorOrdMath
namespace Go.Proofs.YtipoielcmaegaaaGreatDoor

section
variable (le : Nat → Nat → Bool)
/-- In order. -/
def UpG (l : List Nat) : Prop := l.Pairwise fun a b => le a b = true
/-- Two lists merged: of what is alike the one ahead comes first. -/
def mrgG (A C : List Nat) : List Nat := List.merge A C le
theorem mrgG_perm (A C : List Nat) : (mrgG le A C).Perm (A ++ C) := List.merge_perm_append le
theorem mrgG_length (A C : List Nat) : (mrgG le A C).length = A.length + C.length := by rw [(mrgG_perm le A C).length_eq, List.length_append]
variable {le}
theorem mrgG_up (hT : ∀ a b c, le a b = true → le b c = true → le a c = true) (hTo : ∀ a b, (le a b || le b a) = true) {A C : List Nat} (hA : UpG le A) (hC : UpG le C) : UpG le (mrgG le A C) :=
  List.pairwise_merge hT hTo A C hA hC
theorem mrgG_left {x : Nat} {A C : List Nat} (h : C = [] ∨ ∃ y U, C = y :: U ∧ le x y = true) : mrgG le (x :: A) C = x :: mrgG le A C := by
  rcases h with rfl | ⟨y, U, rfl, h⟩
  · simp [mrgG]
  · unfold mrgG; rw [List.cons_merge_cons]; simp [h]
theorem mrgG_right {y : Nat} {A C : List Nat} (h : A = [] ∨ ∃ x T, A = x :: T ∧ le x y = false) : mrgG le A (y :: C) = y :: mrgG le A C := by
  rcases h with rfl | ⟨x, T, rfl, h⟩
  · simp [mrgG]
  · unfold mrgG; rw [List.cons_merge_cons]; simp [h]
/-- Each run of so many is in order. -/
def RunsG (le : Nat → Nat → Bool) (q : Nat) (L : List Nat) : Prop := ∀ i, UpG le ((L.drop (i * q)).take q)
theorem runsG_one (L : List Nat) : RunsG le 1 L := fun i => by
  cases h : L.drop (i * 1) with
  | nil => simp [UpG]
  | cons x T => simp [UpG]
theorem runsG_all {q : Nat} {L : List Nat} (h : RunsG le q L) (hq : L.length ≤ q) : UpG le L := by
  have := h 0
  rwa [Nat.zero_mul, List.drop_zero, List.take_of_length_le hq] at this

/-- What one merge puts where two runs stood. -/
def twoG (le : Nat → Nat → Bool) (q f : Nat) (L : List Nat) : List Nat := mrgG le ((L.drop f).take q) ((L.drop (f + q)).take q)
theorem twoG_perm (le : Nat → Nat → Bool) (q f : Nat) (L : List Nat) : (twoG le q f L).Perm ((L.drop f).take (2 * q)) := by
  have h := mrgG_perm le ((L.drop f).take q) ((L.drop (f + q)).take q)
  have e : (L.drop f).take (2 * q) = (L.drop f).take q ++ (L.drop (f + q)).take q := by
    rw [show 2 * q = q + q from by omega, List.take_add, List.drop_drop]
  rw [e]; exact h
theorem twoG_length (le : Nat → Nat → Bool) (q f : Nat) (L : List Nat) : (twoG le q f L).length = min (2 * q) (L.length - f) := by
  rw [(twoG_perm le q f L).length_eq]; simp

/-- One pass, as far as it is. -/
def PassG (le : Nat → Nat → Bool) (q t : Nat) (L R : List Nat) : Prop := R.length = L.length ∧ (R.take (t * (2 * q))).Perm (L.take (t * (2 * q))) ∧ ∀ i, i < t → UpG le ((R.drop (i * (2 * q))).take (2 * q))
theorem passG_zero (q : Nat) {L R : List Nat} (h : R.length = L.length) : PassG le q 0 L R := ⟨h, by simp, fun i hi => by omega⟩
theorem passG_step (hT : ∀ a b c, le a b = true → le b c = true → le a c = true) (hTo : ∀ a b, (le a b || le b a) = true) {q t : Nat} {L R : List Nat} (hr : RunsG le q L) (h : PassG le q t L R) (hf : t * (2 * q) < L.length) :
    PassG le q (t + 1) L (R.take (t * (2 * q)) ++ (twoG le q (t * (2 * q)) L ++ R.drop (t * (2 * q) + (twoG le q (t * (2 * q)) L).length))) := by
  obtain ⟨h1, h2, h3⟩ := h
  have hM := twoG_length le q (t * (2 * q)) L
  have hMu : UpG le (twoG le q (t * (2 * q)) L) := by
    refine mrgG_up hT hTo ?_ ?_
    · have := hr (t * 2)
      rwa [show t * 2 * q = t * (2 * q) from by rw [Nat.mul_assoc]] at this
    · have := hr (t * 2 + 1)
      rwa [show (t * 2 + 1) * q = t * (2 * q) + q from by rw [Nat.add_mul, Nat.mul_assoc, Nat.one_mul]] at this
  have hMp := twoG_perm le q (t * (2 * q)) L
  have e2 : (t + 1) * (2 * q) = t * (2 * q) + 2 * q := by rw [Nat.add_mul, Nat.one_mul]
  rw [show (t + 1) = t + 1 from rfl]
  unfold PassG
  rw [e2]
  generalize hF : t * (2 * q) = f at *
  generalize twoG le q f L = M at *
  generalize hs : 2 * q = s at *
  have htk : (R.take f).length = f := by simp; omega
  have hcut : (M ++ R.drop (f + M.length)).take s = M := by
    by_cases hc : f + s ≤ L.length
    · rw [List.take_append_of_le_length (by omega), List.take_of_length_le (by omega)]
    · rw [List.drop_eq_nil_of_le (by omega), List.append_nil, List.take_of_length_le (by omega)]
  refine ⟨by simp; omega, ?_, ?_⟩
  · rw [List.take_add, List.take_append_of_le_length (by omega), List.take_of_length_le (by omega)]
    rw [show (R.take f ++ (M ++ R.drop (f + M.length))).drop f = M ++ R.drop (f + M.length) from by
      have := @List.drop_append _ (R.take f) (M ++ R.drop (f + M.length)) f
      rw [this, List.drop_eq_nil_of_le (by omega), htk, Nat.sub_self, List.drop_zero, List.nil_append]]
    rw [hcut, List.take_add]
    exact h2.append hMp
  · intro i hi
    by_cases hit : i < t
    · have hle : i * s + s ≤ f := by
        have : (i + 1) * s ≤ t * s := Nat.mul_le_mul_right s (by omega)
        rw [Nat.add_mul, Nat.one_mul] at this
        omega
      rw [List.drop_append_of_le_length (by omega), List.take_append_of_le_length (by simp; omega), List.drop_take, List.take_take, show min s (f - i * s) = s from by omega]
      exact h3 i hit
    · obtain rfl : i = t := by omega
      rw [hF]
      rw [show (R.take f ++ (M ++ R.drop (f + M.length))).drop f = M ++ R.drop (f + M.length) from by
        have := @List.drop_append _ (R.take f) (M ++ R.drop (f + M.length)) f
        rw [this, List.drop_eq_nil_of_le (by omega), htk, Nat.sub_self, List.drop_zero, List.nil_append]]
      rw [hcut]
      exact hMu
theorem passG_end {q t : Nat} {L R : List Nat} (h : PassG le q t L R) (hf : L.length ≤ t * (2 * q)) : R.length = L.length ∧ R.Perm L ∧ RunsG le (2 * q) R := by
  obtain ⟨h1, h2, h3⟩ := h
  refine ⟨h1, ?_, ?_⟩
  · rwa [List.take_of_length_le (by omega), List.take_of_length_le hf] at h2
  · intro i
    by_cases hi : i < t
    · exact h3 i hi
    · have : t * (2 * q) ≤ i * (2 * q) := Nat.mul_le_mul_right _ (by omega)
      rw [List.drop_eq_nil_of_le (by omega)]
      simp [UpG]

end

/-- A place's key. -/
def kOf (ks : List KeyV) (i : Nat) : KeyV := ks.getD i ⟨0, [], 0⟩
/-- Of two places: does the one stand ahead, the lesser first where their keys are the same. -/
def plB (ks : List KeyV) (i j : Nat) : Bool := decide (keyF (kOf ks i) (kOf ks j) < 0) || (decide (keyF (kOf ks i) (kOf ks j) = 0) && decide (i ≤ j))
theorem plB_iff (ks : List KeyV) (i j : Nat) : plB ks i j = true ↔ placeLe ks i j := by
  unfold plB placeLe kOf
  simp
theorem plB_total (ks : List KeyV) (i j : Nat) : (plB ks i j || plB ks j i) = true := by
  have h := keyF_anti (kOf ks i) (kOf ks j)
  unfold plB
  simp only [Bool.or_eq_true, Bool.and_eq_true, decide_eq_true_eq]
  omega
theorem plB_trans (ks : List KeyV) (i j k : Nat) (h1 : plB ks i j = true) (h2 : plB ks j k = true) : plB ks i k = true := by
  unfold plB at *
  simp only [Bool.or_eq_true, Bool.and_eq_true, decide_eq_true_eq] at *
  have h := keyF_trans (a := kOf ks i) (b := kOf ks j) (c := kOf ks k) (by omega) (by omega)
  have hr := keyF_range (kOf ks i) (kOf ks k)
  by_cases h0 : keyF (kOf ks i) (kOf ks k) = 0
  · have := h.2 h0
    omega
  · omega
/-- Of two places the lesser one ahead: the keys alone decide. -/
theorem plB_lt (ks : List KeyV) {i j : Nat} (h : i < j) : plB ks i j = decide (keyF (kOf ks i) (kOf ks j) ≤ 0) := by
  rw [Bool.eq_iff_iff]
  unfold plB
  simp only [Bool.or_eq_true, Bool.and_eq_true, decide_eq_true_eq]
  omega
theorem places_sorted {ks : List KeyV} {l m : List Nat} (hl : UpG (plB ks) l) (hm : UpG (plB ks) m) (hp : l.Perm m) : l = m :=
  places_unique (hl.imp fun h => (plB_iff ks _ _).1 h) (hm.imp fun h => (plB_iff ks _ _).1 h) hp
#print axioms places_sorted
#print axioms passG_step
end Go.Proofs.YtipoielcmaegaaaGreatDoor
