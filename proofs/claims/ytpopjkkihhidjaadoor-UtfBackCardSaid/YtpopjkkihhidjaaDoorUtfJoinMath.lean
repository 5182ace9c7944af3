/-
  Two texts, one behind the other: plain facts.
-/
import Derived.Test.YtpopjkkihhidjaaDoorUtfInv
namespace Go.Proofs.YtpopjkkihhidjaaDoor

theorem runesGo_ahead (m : List Nat) : ∀ (f at_ : Nat) (acc : List Nat) (r : List UInt8), (∀ n, n ∈ m → mayF n = true) → (textF m ++ r).length ≤ f →
    runesGo f at_ acc (textF m ++ r) = runesGo f (at_ + (textF m).length) (acc ++ m) r := by
  induction m with
  | nil => intro f at_ acc r _ _; simp [textF]
  | cons n m ih =>
    intro f at_ acc r hm hf
    have e : textF (n :: m) ++ r = encF n ++ (textF m ++ r) := by
      have : textF (n :: m) = encF n ++ textF m := rfl
      rw [this, List.append_assoc]
    rw [e] at hf ⊢
    rw [runesGo_step hf (decF_enc n (hm n (by simp)) (textF m ++ r)), List.drop_left, ih f _ _ r (fun x hx => hm x (by simp [hx])) (by simp only [List.length_append] at hf ⊢; omega)]
    have e1 : (textF (n :: m)).length = (encF n).length + (textF m).length := by
      have : textF (n :: m) = encF n ++ textF m := rfl
      rw [this, List.length_append]
    rw [e1, List.append_assoc, List.singleton_append, Nat.add_assoc]

theorem runesGo_shift (f : Nat) : ∀ (at_ : Nat) (acc : List Nat) (r : List UInt8), r.length ≤ f → runesGo f at_ acc r = ((runesGo f 0 [] r).1.map (acc ++ ·), at_ + (runesGo f 0 [] r).2) := by
  induction f with
  | zero =>
    intro at_ acc r hr
    have : r = [] := List.length_eq_zero_iff.1 (by omega)
    subst this
    simp [runesGo_nil]
  | succ f ih =>
    intro at_ acc r hr
    by_cases hs : r = []
    · subst hs; simp [runesGo_nil]
    · rw [runesGo, runesGo, if_neg hs, if_neg hs]
      cases hd : decF r with
      | none => simp
      | some p =>
        obtain ⟨n, k⟩ := p
        have hk := decF_some hd
        have hp := encF_pos n
        simp only
        rw [ih (at_ + k) (acc ++ [n]) (r.drop k) (by simp; omega), ih (0 + k) ([] ++ [n]) (r.drop k) (by simp; omega)]
        cases (runesGo f 0 [] (r.drop k)).1 <;> simp [Nat.add_assoc]

/-- Behind a text: as it would be alone. -/
theorem runesF_ahead {a : List UInt8} {La : List Nat} {e : Nat} (h : runesF a = (some La, e)) (b : List UInt8) :
    (∀ Lb e', runesF b = (some Lb, e') → runesF (a ++ b) = (some (La ++ Lb), a.length + e')) ∧ (∀ p, runesF b = (none, p) → runesF (a ++ b) = (none, a.length + p)) := by
  obtain ⟨hm, ha, _⟩ := runesF_some h
  have key : runesF (a ++ b) = ((runesF b).1.map (La ++ ·), a.length + (runesF b).2) := by
    unfold runesF
    rw [ha, runesGo_ahead La _ 0 [] b hm (Nat.le_refl _), runesGo_shift _ _ _ _ (by simp), runesGo_fuel (textF La ++ b).length b.length 0 [] b (by simp) (Nat.le_refl _)]
    simp
  refine ⟨fun Lb e' hb => ?_, fun p hb => ?_⟩
  · rw [key, hb]; rfl
  · rw [key, hb]; rfl

/-- What is wrong at a place is not wrong ahead of it, whatever stands behind. -/
theorem runesF_wrong {a b : List UInt8} {p q : Nat} (ha : runesF a = (none, p)) (hab : runesF (a ++ b) = (none, q)) : p ≤ q := by
  unfold runesF at ha
  obtain ⟨m, hm, hp, ht, hlt, _⟩ := runesGo_none _ _ _ _ _ (Nat.le_refl _) ha
  have e : a ++ b = textF m ++ (a.drop (textF m).length ++ b) := by
    have := (List.take_append_drop (textF m).length a).symm
    rw [ht] at this
    rw [← List.append_assoc, ← this]
  unfold runesF at hab
  rw [e, runesGo_ahead m _ 0 [] _ hm (Nat.le_refl _), runesGo_shift _ _ _ _ (by simp)] at hab
  have := congrArg (·.2) hab
  simp only at this
  omega
#print axioms runesF_wrong
end Go.Proofs.YtpopjkkihhidjaaDoor
