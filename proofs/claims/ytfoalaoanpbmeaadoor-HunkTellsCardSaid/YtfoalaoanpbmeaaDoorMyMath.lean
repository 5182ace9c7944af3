/-
  A script's least cost, plainly: the points along diagonals, what a script meets.
-/
import Derived.Test.YtfoalaoanpbmeaaDoorBytes
namespace Go.Proofs.YtfoalaoanpbmeaaDoor
namespace My
/-- The rest's cost where so many are left of each: E tells whether what stands there is the same. -/
def cst (E : Nat → Nat → Bool) : Nat → Nat → Nat
  | 0, y => y
  | x + 1, 0 => x + 1
  | x + 1, y + 1 => if E x y then cst E x y else 1 + min (cst E x (y + 1)) (cst E (x + 1) y)
termination_by x y => x + y
section
variable {E : Nat → Nat → Bool}
theorem cst_l (y : Nat) : cst E 0 y = y := by unfold cst; rfl
theorem cst_r (x : Nat) : cst E x 0 = x := by cases x <;> (unfold cst; rfl)
theorem cst_s (x y : Nat) : cst E (x + 1) (y + 1) = if E x y then cst E x y else 1 + min (cst E x (y + 1)) (cst E (x + 1) y) := by rw [cst]
theorem cst_yes {x y : Nat} (h : E x y = true) : cst E (x + 1) (y + 1) = cst E x y := by rw [cst_s, if_pos h]
theorem cst_no {x y : Nat} (h : ¬ E x y = true) : cst E (x + 1) (y + 1) = 1 + min (cst E x (y + 1)) (cst E (x + 1) y) := by rw [cst_s, if_neg h]
theorem lip (N : Nat) : ∀ x y, x + y ≤ N → (cst E (x + 1) y ≤ cst E x y + 1 ∧ cst E x y ≤ cst E (x + 1) y + 1) ∧ (cst E x (y + 1) ≤ cst E x y + 1 ∧ cst E x y ≤ cst E x (y + 1) + 1) := by
  induction N with
  | zero =>
    intro x y h
    obtain rfl : x = 0 := by omega
    obtain rfl : y = 0 := by omega
    simp [cst_l, cst_r]
  | succ N ih =>
    intro x y h
    constructor
    · cases y with
      | zero => simp only [cst_r]; omega
      | succ y =>
        have h1 := ih x y (by omega)
        by_cases he : E x y = true
        · rw [cst_yes he]; omega
        · rw [cst_no he]; omega
    · cases x with
      | zero => simp only [cst_l]; omega
      | succ x =>
        have h1 := ih x y (by omega)
        by_cases he : E x y = true
        · rw [cst_yes he]; omega
        · rw [cst_no he]; omega
theorem lipX (x y : Nat) : cst E (x + 1) y ≤ cst E x y + 1 ∧ cst E x y ≤ cst E (x + 1) y + 1 := (lip (x + y) x y (Nat.le_refl _)).1
theorem lipY (x y : Nat) : cst E x (y + 1) ≤ cst E x y + 1 ∧ cst E x y ≤ cst E x (y + 1) + 1 := (lip (x + y) x y (Nat.le_refl _)).2
theorem diag_le (x y : Nat) : cst E x y ≤ cst E (x + 1) (y + 1) := by
  by_cases he : E x y = true
  · rw [cst_yes he]; omega
  · rw [cst_no he]
    have := (lipY (E := E) x y).2; have := (lipX (E := E) x y).2; omega
theorem diag_mono (x y k : Nat) : cst E x y ≤ cst E (x + k) (y + k) := by
  induction k with
  | zero => simp
  | succ k ih => exact Nat.le_trans ih (diag_le _ _)
theorem cst_le (N : Nat) : ∀ x y, x + y ≤ N → cst E x y ≤ x + y ∧ x ≤ cst E x y + y ∧ y ≤ cst E x y + x ∧ (cst E x y) % 2 = (x + y) % 2 := by
  induction N with
  | zero =>
    intro x y h
    obtain rfl : x = 0 := by omega
    obtain rfl : y = 0 := by omega
    simp [cst_l]
  | succ N ih =>
    intro x y h
    cases x with
    | zero => simp [cst_l]
    | succ x =>
      cases y with
      | zero => simp [cst_r]
      | succ y =>
        by_cases he : E x y = true
        · have := ih x y (by omega); rw [cst_yes he]; omega
        · have h1 := ih x (y + 1) (by omega); have h2 := ih (x + 1) y (by omega); rw [cst_no he]; omega
theorem cst_bd (x y : Nat) : cst E x y ≤ x + y ∧ x ≤ cst E x y + y ∧ y ≤ cst E x y + x ∧ (cst E x y) % 2 = (x + y) % 2 := cst_le (x + y) x y (Nat.le_refl _)
end
/-- A point told by its diagonal: the cost there, of whole numbers. -/
def cd (E : Nat → Nat → Bool) (x q : Int) : Nat := cst E x.toNat (x - q).toNat
structure Pt (n m : Nat) (x q : Int) : Prop where
  x0 : 0 ≤ x
  xn : x ≤ n
  y0 : q ≤ x
  ym : x - q ≤ m
section
variable {E : Nat → Nat → Bool} {n m : Nat}
theorem cd_mono {x x' q : Int} (h0 : 0 ≤ x) (h1 : q ≤ x) (h : x ≤ x') : cd E x q ≤ cd E x' q := by
  unfold cd
  have e1 : x'.toNat = x.toNat + (x' - x).toNat := by omega
  have e2 : (x' - q).toNat = (x - q).toNat + (x' - x).toNat := by omega
  rw [e1, e2]; exact diag_mono _ _ _
theorem cd_drop {x q : Int} (h0 : 0 ≤ x) (h1 : q ≤ x) : cd E (x + 1) (q + 1) ≤ cd E x q + 1 ∧ cd E x q ≤ cd E (x + 1) (q + 1) + 1 := by
  unfold cd
  have e1 : (x + 1).toNat = x.toNat + 1 := by omega
  have e2 : (x + 1 - (q + 1)).toNat = (x - q).toNat := by omega
  rw [e1, e2]; exact lipX _ _
theorem cd_add {x q : Int} (h1 : q ≤ x) : cd E x (q - 1) ≤ cd E x q + 1 ∧ cd E x q ≤ cd E x (q - 1) + 1 := by
  unfold cd
  have e2 : (x - (q - 1)).toNat = (x - q).toNat + 1 := by omega
  rw [e2]; exact lipY _ _
theorem cd_bd {x q : Int} (h0 : 0 ≤ x) (h1 : q ≤ x) : q ≤ cd E x q ∧ -q ≤ cd E x q ∧ ((cd E x q : Nat) : Int) % 2 = q % 2 ∧ (cd E x q : Int) ≤ 2 * x - q := by
  unfold cd
  have := cst_bd (E := E) x.toNat (x - q).toNat
  omega
/-- The three ways on from a point. -/
theorem cd_step {x q : Int} (h0 : 0 ≤ x) (h1 : q ≤ x) (hne : 0 < x ∨ q < x) :
    (0 < x ∧ q < x ∧ E (x - 1).toNat (x - q - 1).toNat = true ∧ cd E (x - 1) q = cd E x q) ∨
    (¬ (0 < x ∧ q < x ∧ E (x - 1).toNat (x - q - 1).toNat = true) ∧ ((0 < x ∧ cd E (x - 1) (q - 1) + 1 = cd E x q) ∨ (q < x ∧ cd E x (q + 1) + 1 = cd E x q)) ∧
      (0 < x → q < x → cd E x q = 1 + min (cd E (x - 1) (q - 1)) (cd E x (q + 1))) ∧ (x = 0 → cd E x (q + 1) + 1 = cd E x q) ∧ (q = x → cd E (x - 1) (q - 1) + 1 = cd E x q)) := by
  unfold cd
  obtain ⟨X, rfl⟩ : ∃ X : Nat, x = X := ⟨x.toNat, by omega⟩
  obtain ⟨Y, hY⟩ : ∃ Y : Nat, (X : Int) - q = Y := ⟨((X : Int) - q).toNat, by omega⟩
  obtain rfl : q = X - Y := by omega
  cases X with
  | zero =>
    obtain ⟨Y, rfl⟩ : ∃ Z, Y = Z + 1 := ⟨Y - 1, by omega⟩
    refine .inr ⟨by omega, .inr ⟨by omega, ?_⟩, by omega, fun _ => ?_, by omega⟩ <;>
    · have e1 : (((0 : Nat) : Int) - (((0 : Nat) : Int) - ((Y + 1 : Nat) : Int) + 1)).toNat = Y := by omega
      have e2 : (((0 : Nat) : Int) - (((0 : Nat) : Int) - ((Y + 1 : Nat) : Int))).toNat = Y + 1 := by omega
      have e0 : ((0 : Nat) : Int).toNat = 0 := rfl
      rw [e1, e2, e0, cst_l, cst_l]
  | succ X =>
    cases Y with
    | zero =>
      have e1 : (((X + 1 : Nat) : Int) - 1).toNat = X := by omega
      have e2 : (((X + 1 : Nat) : Int) - 1 - (((X + 1 : Nat) : Int) - ((0 : Nat) : Int) - 1)).toNat = 0 := by omega
      have e3 : (((X + 1 : Nat) : Int) - (((X + 1 : Nat) : Int) - ((0 : Nat) : Int))).toNat = 0 := by omega
      have e4 : (((X + 1 : Nat) : Int)).toNat = X + 1 := by omega
      refine .inr ⟨by omega, .inl ⟨by omega, ?_⟩, by omega, by omega, fun _ => ?_⟩ <;> rw [e1, e2, e3, e4, cst_r, cst_r]
    | succ Y =>
      have e1 : (((X + 1 : Nat) : Int) - 1).toNat = X := by omega
      have e2 : (((X + 1 : Nat) : Int) - 1 - (((X + 1 : Nat) : Int) - ((Y + 1 : Nat) : Int) - 1)).toNat = Y + 1 := by omega
      have e3 : (((X + 1 : Nat) : Int) - (((X + 1 : Nat) : Int) - ((Y + 1 : Nat) : Int))).toNat = Y + 1 := by omega
      have e4 : (((X + 1 : Nat) : Int)).toNat = X + 1 := by omega
      have e5 : (((X + 1 : Nat) : Int) - (((X + 1 : Nat) : Int) - ((Y + 1 : Nat) : Int)) - 1).toNat = Y := by omega
      have e6 : (((X + 1 : Nat) : Int) - 1 - (((X + 1 : Nat) : Int) - ((Y + 1 : Nat) : Int))).toNat = Y := by omega
      have e7 : (((X + 1 : Nat) : Int) - (((X + 1 : Nat) : Int) - ((Y + 1 : Nat) : Int) + 1)).toNat = Y := by omega
      rw [e1, e2, e3, e4, e5, e6, e7]
      by_cases he : E X Y = true
      · exact .inl ⟨by omega, by omega, he, (cst_yes he).symm⟩
      · have h := cst_no he
        refine .inr ⟨fun h => he h.2.2, ?_, fun _ _ => h, by omega, by omega⟩
        rcases Nat.le_total (cst E X (Y + 1)) (cst E (X + 1) Y) with hl | hl
        · exact .inl ⟨by omega, by rw [h, Nat.min_eq_left hl]; omega⟩
        · exact .inr ⟨by omega, by rw [h, Nat.min_eq_right hl]; omega⟩

/-- A diagonal is reached to its end: that of b, that of a. -/
def FullL (E : Nat → Nat → Bool) (n m e : Nat) (L : Int) : Prop := 0 ≤ m + L ∧ m + L ≤ n ∧ cd E (m + L) L ≤ e
def FullH (E : Nat → Nat → Bool) (n m e : Nat) (H : Int) : Prop := 0 ≤ n - H ∧ n - H ≤ m ∧ cd E n H ≤ e
/-- No full diagonal lies between. -/
def Rel (E : Nat → Nat → Bool) (n m e : Nat) (q : Int) : Prop := (∀ L, FullL E n m e L → L ≤ q) ∧ ∀ H, FullH E n m e H → q ≤ H
theorem full_low {e : Nat} {L : Int} (h : FullL E n m e L) (hD : e < cd E n (n - m)) : FullL E n m (e + 1) (L + 1) := by
  obtain ⟨h0, h1, h2⟩ := h
  have hne : m + L ≠ n := fun h => by
    have : L = n - m := by omega
    subst this
    have e1 : (m : Int) + (n - m) = n := by omega
    rw [e1] at h2; omega
  refine ⟨by omega, by omega, ?_⟩
  have := (cd_drop (E := E) (x := m + L) (q := L) h0 (by omega)).1
  have e1 : (m : Int) + (L + 1) = m + L + 1 := by omega
  rw [e1]; omega
theorem full_high {e : Nat} {H : Int} (h : FullH E n m e H) (hD : e < cd E n (n - m)) : FullH E n m (e + 1) (H - 1) := by
  obtain ⟨h0, h1, h2⟩ := h
  have hne : n - H ≠ m := fun h => by
    have : H = n - m := by omega
    subst this
    omega
  refine ⟨by omega, by omega, ?_⟩
  have := (cd_add (E := E) (x := n) (q := H) (by omega)).1
  omega
theorem rel_back {e : Nat} {q : Int} (hD : e < cd E n (n - m)) (h : Rel E n m (e + 1) q) : Rel E n m e (q - 1) ∧ Rel E n m e (q + 1) := by
  refine ⟨⟨fun L hL => ?_, fun H hH => ?_⟩, ⟨fun L hL => ?_, fun H hH => ?_⟩⟩
  · have := h.1 _ (full_low hL hD); omega
  · have := h.2 _ (full_high hH hD); omega
  · have := h.1 _ (full_low hL hD); omega
  · have := h.2 _ (full_high hH hD); omega
/-- Along a script no full diagonal is met. -/
def Free (E : Nat → Nat → Bool) (n m : Nat) (x q : Int) : Prop := ∀ e, e < cd E x q → (∀ L, FullL E n m e L → L < q) ∧ ∀ H, FullH E n m e H → q < H
theorem free_start : Free E n m n (n - m) := fun e he => ⟨fun L h => by
  have := full_low h he
  have := this.2.1; omega, fun H h => by
  have := full_high h he
  have := this.2.1; omega⟩
theorem free_step {x q x' q' : Int} (h : Free E n m x q) (hp : Pt n m x' q') (hq : q' = q ∨ q' = q - 1 ∨ q' = q + 1) (hc : cd E x' q' ≤ cd E x q) : Free E n m x' q' := by
  intro e he
  obtain ⟨h1, h2⟩ := h e (by omega)
  refine ⟨fun L hL => ?_, fun H hH => ?_⟩
  · have h3 := h1 L hL
    rcases Int.lt_or_le L q' with h4 | h4
    · exact h4
    · exfalso
      obtain rfl : q' = L := by omega
      have := cd_mono (E := E) hp.x0 hp.y0 (show x' ≤ m + q' from by have := hp.ym; omega)
      have := hL.2.2; omega
  · have h3 := h2 H hH
    rcases Int.lt_or_le q' H with h4 | h4
    · exact h4
    · exfalso
      obtain rfl : q' = H := by omega
      have := cd_mono (E := E) hp.x0 hp.y0 hp.xn
      have := hH.2.2; omega
/-- What is asked of a script's point one edit ahead. -/
theorem free_rel {x q : Int} {e : Nat} (h : Free E n m x q) (he : e < cd E x q) : Rel E n m e (q - 1) ∧ Rel E n m e (q + 1) ∧ Rel E n m e q := by
  obtain ⟨h1, h2⟩ := h e he
  refine ⟨⟨fun L hL => ?_, fun H hH => ?_⟩, ⟨fun L hL => ?_, fun H hH => ?_⟩, ⟨fun L hL => ?_, fun H hH => ?_⟩⟩
  all_goals first | (have := h1 L hL; omega) | (have := h2 H hH; omega)
/-- Further along the script there is a point of just so many edits. -/
theorem free_ahead (f : Nat) : ∀ (N : Nat) (x q : Int), (2 * x - q).toNat ≤ N → Pt n m x q → Free E n m x q → f < cd E x q → ∃ x' q', Pt n m x' q' ∧ cd E x' q' = f ∧ Rel E n m f q' ∧ q - (cd E x q - f : Nat) ≤ q' ∧ q' ≤ q + (cd E x q - f : Nat) := by
  intro N
  induction N with
  | zero =>
    intro x q hN hp _ hf
    have := (cd_bd (E := E) hp.x0 hp.y0).2.2.2
    have := hp.x0; have := hp.y0
    omega
  | succ N ih =>
    intro x q hN hp hF hf
    have b := (cd_bd (E := E) hp.x0 hp.y0).2.2.2
    have := hp.x0; have := hp.y0; have := hp.xn; have := hp.ym
    rcases cd_step (E := E) hp.x0 hp.y0 (by omega) with ⟨c1, c2, c3, c4⟩ | ⟨_, c, _⟩
    · have hp' : Pt n m (x - 1) q := ⟨by omega, by omega, by omega, by omega⟩
      obtain ⟨x', q', r1, r2, r3, r4, r5⟩ := ih (x - 1) q (by omega) hp' (free_step hF hp' (.inl rfl) (by omega)) (by omega)
      exact ⟨x', q', r1, r2, r3, by omega, by omega⟩
    · have key : ∀ x1 q1, Pt n m x1 q1 → 2 * x1 - q1 < 2 * x - q → (q1 = q - 1 ∨ q1 = q + 1) → cd E x1 q1 + 1 = cd E x q → ∃ x' q', Pt n m x' q' ∧ cd E x' q' = f ∧ Rel E n m f q' ∧ q - (cd E x q - f : Nat) ≤ q' ∧ q' ≤ q + (cd E x q - f : Nat) := by
        intro x1 q1 hp1 h2 h3 h4
        by_cases hf1 : f = cd E x1 q1
        · refine ⟨x1, q1, hp1, hf1.symm, ?_, by omega, by omega⟩
          have hr := free_rel hF hf
          rcases h3 with rfl | rfl
          · exact hr.1
          · exact hr.2.1
        · obtain ⟨x', q', r1, r2, r3, r4, r5⟩ := ih x1 q1 (by have := hp1.x0; have := hp1.y0; omega) hp1 (free_step hF hp1 (by omega) (by omega)) (by omega)
          exact ⟨x', q', r1, r2, r3, by omega, by omega⟩
      rcases c with ⟨c1, c2⟩ | ⟨c1, c2⟩
      · exact key _ _ ⟨by omega, by omega, by omega, by omega⟩ (by omega) (.inl rfl) c2
      · exact key _ _ ⟨by omega, by omega, by omega, by omega⟩ (by omega) (.inr rfl) c2
end
end My
end Go.Proofs.YtfoalaoanpbmeaaDoor
