/-
  Merged: MyMath, MyList.
-/
import Derived.Test.YtfoalaoanpbmeaaDoorBytes
namespace Go.Proofs.YtfoalaoanpbmeaaDoor
namespace My
/-- The rest's cost where so many are left of each: E tells whether what stands there is the same. -/
def cst (E : Nat → Nat → Bool) : Nat → Nat → Nat
  | 0, y => y
  | x + 1, 0 => x + 1
  | x + 1, y + 1 => if E x y then cst E x y else 1 + min (cst E x (y + 1)) (cst E (x + 1) y)
termination_by x y => x + y
section
variable {E : Nat → Nat → Bool}
theorem cst_l (y : Nat) : cst E 0 y = y := by unfold cst; rfl
theorem cst_r (x : Nat) : cst E x 0 = x := by cases x <;> (unfold cst; rfl)
theorem cst_s (x y : Nat) : cst E (x + 1) (y + 1) = if E x y then cst E x y else 1 + min (cst E x (y + 1)) (cst E (x + 1) y) := by rw [cst]
theorem cst_yes {x y : Nat} (h : E x y = true) : cst E (x + 1) (y + 1) = cst E x y := by rw [cst_s, if_pos h]
theorem cst_no {x y : Nat} (h : ¬ E x y = true) : cst E (x + 1) (y + 1) = 1 + min (cst E x (y + 1)) (cst E (x + 1) y) := by rw [cst_s, if_neg h]
theorem lip (N : Nat) : ∀ x y, x + y ≤ N → (cst E (x + 1) y ≤ cst E x y + 1 ∧ cst E x y ≤ cst E (x + 1) y + 1) ∧ (cst E x (y + 1) ≤ cst E x y + 1 ∧ cst E x y ≤ cst E x (y + 1) + 1) := by
  induction N with
  | zero =>
    intro x y h
    obtain rfl : x = 0 := by omega
    obtain rfl : y = 0 := by omega
    simp [cst_l, cst_r]
  | succ N ih =>
    intro x y h
    constructor
    · cases y with
      | zero => simp only [cst_r]; omega
      | succ y =>
        have h1 := ih x y (by omega)
        by_cases he : E x y = true
        · rw [cst_yes he]; omega
        · rw [cst_no he]; omega
    · cases x with
      | zero => simp only [cst_l]; omega
      | succ x =>
        have h1 := ih x y (by omega)
        by_cases he : E x y = true
        · rw [cst_yes he]; omega
        · rw [cst_no he]; omega
theorem lipX (x y : Nat) : cst E (x + 1) y ≤ cst E x y + 1 ∧ cst E x y ≤ cst E (x + 1) y + 1 := (lip (x + y) x y (Nat.le_refl _)).1
theorem lipY (x y : Nat) : cst E x (y + 1) ≤ cst E x y + 1 ∧ cst E x y ≤ cst E x (y + 1) + 1 := (lip (x + y) x y (Nat.le_refl _)).2
theorem diag_le (x y : Nat) : cst E x y ≤ cst E (x + 1) (y + 1) := by
  by_cases he : E x y = true
  · rw [cst_yes he]; omega
  · rw [cst_no he]
    have := (lipY (E := E) x y).2; have := (lipX (E := E) x y).2; omega
theorem diag_mono (x y k : Nat) : cst E x y ≤ cst E (x + k) (y + k) := by
  induction k with
  | zero => simp
  | succ k ih => exact Nat.le_trans ih (diag_le _ _)
theorem cst_le (N : Nat) : ∀ x y, x + y ≤ N → cst E x y ≤ x + y ∧ x ≤ cst E x y + y ∧ y ≤ cst E x y + x ∧ (cst E x y) % 2 = (x + y) % 2 := by
  induction N with
  | zero =>
    intro x y h
    obtain rfl : x = 0 := by omega
    obtain rfl : y = 0 := by omega
    simp [cst_l]
  | succ N ih =>
    intro x y h
    cases x with
    | zero => simp [cst_l]
    | succ x =>
      cases y with
      | zero => simp [cst_r]
      | succ y =>
        by_cases he : E x y = true
        · have := ih x y (by omega); rw [cst_yes he]; omega
        · have h1 := ih x (y + 1) (by omega); have h2 := ih (x + 1) y (by omega); rw [cst_no he]; omega
theorem cst_bd (x y : Nat) : cst E x y ≤ x + y ∧ x ≤ cst E x y + y ∧ y ≤ cst E x y + x ∧ (cst E x y) % 2 = (x + y) % 2 := cst_le (x + y) x y (Nat.le_refl _)
end
/-- A point told by its diagonal: the cost there, of whole numbers. -/
def cd (E : Nat → Nat → Bool) (x q : Int) : Nat := cst E x.toNat (x - q).toNat
structure Pt (n m : Nat) (x q : Int) : Prop where
  x0 : 0 ≤ x
  xn : x ≤ n
  y0 : q ≤ x
  ym : x - q ≤ m
section
variable {E : Nat → Nat → Bool} {n m : Nat}
theorem cd_mono {x x' q : Int} (h0 : 0 ≤ x) (h1 : q ≤ x) (h : x ≤ x') : cd E x q ≤ cd E x' q := by
  unfold cd
  have e1 : x'.toNat = x.toNat + (x' - x).toNat := by omega
  have e2 : (x' - q).toNat = (x - q).toNat + (x' - x).toNat := by omega
  rw [e1, e2]; exact diag_mono _ _ _
theorem cd_drop {x q : Int} (h0 : 0 ≤ x) (h1 : q ≤ x) : cd E (x + 1) (q + 1) ≤ cd E x q + 1 ∧ cd E x q ≤ cd E (x + 1) (q + 1) + 1 := by
  unfold cd
  have e1 : (x + 1).toNat = x.toNat + 1 := by omega
  have e2 : (x + 1 - (q + 1)).toNat = (x - q).toNat := by omega
  rw [e1, e2]; exact lipX _ _
theorem cd_add {x q : Int} (h1 : q ≤ x) : cd E x (q - 1) ≤ cd E x q + 1 ∧ cd E x q ≤ cd E x (q - 1) + 1 := by
  unfold cd
  have e2 : (x - (q - 1)).toNat = (x - q).toNat + 1 := by omega
  rw [e2]; exact lipY _ _
theorem cd_bd {x q : Int} (h0 : 0 ≤ x) (h1 : q ≤ x) : q ≤ cd E x q ∧ -q ≤ cd E x q ∧ ((cd E x q : Nat) : Int) % 2 = q % 2 ∧ (cd E x q : Int) ≤ 2 * x - q := by
  unfold cd
  have := cst_bd (E := E) x.toNat (x - q).toNat
  omega
/-- The three ways on from a point. -/
theorem cd_step {x q : Int} (h0 : 0 ≤ x) (h1 : q ≤ x) (hne : 0 < x ∨ q < x) :
    (0 < x ∧ q < x ∧ E (x - 1).toNat (x - q - 1).toNat = true ∧ cd E (x - 1) q = cd E x q) ∨
    (¬ (0 < x ∧ q < x ∧ E (x - 1).toNat (x - q - 1).toNat = true) ∧ ((0 < x ∧ cd E (x - 1) (q - 1) + 1 = cd E x q) ∨ (q < x ∧ cd E x (q + 1) + 1 = cd E x q)) ∧
      (0 < x → q < x → cd E x q = 1 + min (cd E (x - 1) (q - 1)) (cd E x (q + 1))) ∧ (x = 0 → cd E x (q + 1) + 1 = cd E x q) ∧ (q = x → cd E (x - 1) (q - 1) + 1 = cd E x q)) := by
  unfold cd
  obtain ⟨X, rfl⟩ : ∃ X : Nat, x = X := ⟨x.toNat, by omega⟩
  obtain ⟨Y, hY⟩ : ∃ Y : Nat, (X : Int) - q = Y := ⟨((X : Int) - q).toNat, by omega⟩
  obtain rfl : q = X - Y := by omega
  cases X with
  | zero =>
    obtain ⟨Y, rfl⟩ : ∃ Z, Y = Z + 1 := ⟨Y - 1, by omega⟩
    refine .inr ⟨by omega, .inr ⟨by omega, ?_⟩, by omega, fun _ => ?_, by omega⟩ <;>
    · have e1 : (((0 : Nat) : Int) - (((0 : Nat) : Int) - ((Y + 1 : Nat) : Int) + 1)).toNat = Y := by omega
      have e2 : (((0 : Nat) : Int) - (((0 : Nat) : Int) - ((Y + 1 : Nat) : Int))).toNat = Y + 1 := by omega
      have e0 : ((0 : Nat) : Int).toNat = 0 := rfl
      rw [e1, e2, e0, cst_l, cst_l]
  | succ X =>
    cases Y with
    | zero =>
      have e1 : (((X + 1 : Nat) : Int) - 1).toNat = X := by omega
      have e2 : (((X + 1 : Nat) : Int) - 1 - (((X + 1 : Nat) : Int) - ((0 : Nat) : Int) - 1)).toNat = 0 := by omega
      have e3 : (((X + 1 : Nat) : Int) - (((X + 1 : Nat) : Int) - ((0 : Nat) : Int))).toNat = 0 := by omega
      have e4 : (((X + 1 : Nat) : Int)).toNat = X + 1 := by omega
      refine .inr ⟨by omega, .inl ⟨by omega, ?_⟩, by omega, by omega, fun _ => ?_⟩ <;> rw [e1, e2, e3, e4, cst_r, cst_r]
    | succ Y =>
      have e1 : (((X + 1 : Nat) : Int) - 1).toNat = X := by omega
      have e2 : (((X + 1 : Nat) : Int) - 1 - (((X + 1 : Nat) : Int) - ((Y + 1 : Nat) : Int) - 1)).toNat = Y + 1 := by omega
      have e3 : (((X + 1 : Nat) : Int) - (((X + 1 : Nat) : Int) - ((Y + 1 : Nat) : Int))).toNat = Y + 1 := by omega
      have e4 : (((X + 1 : Nat) : Int)).toNat = X + 1 := by omega
      have e5 : (((X + 1 : Nat) : Int) - (((X + 1 : Nat) : Int) - ((Y + 1 : Nat) : Int)) - 1).toNat = Y := by omega
      have e6 : (((X + 1 : Nat) : Int) - 1 - (((X + 1 : Nat) : Int) - ((Y + 1 : Nat) : Int))).toNat = Y := by omega
      have e7 : (((X + 1 : Nat) : Int) - (((X + 1 : Nat) : Int) - ((Y + 1 : Nat) : Int) + 1)).toNat = Y := by omega
      rw [e1, e2, e3, e4, e5, e6, e7]
      by_cases he : E X Y = true
      · exact .inl ⟨by omega, by omega, he, (cst_yes he).symm⟩
      · have h := cst_no he
        refine .inr ⟨fun h => he h.2.2, ?_, fun _ _ => h, by omega, by omega⟩
        rcases Nat.le_total (cst E X (Y + 1)) (cst E (X + 1) Y) with hl | hl
        · exact .inl ⟨by omega, by rw [h, Nat.min_eq_left hl]; omega⟩
        · exact .inr ⟨by omega, by rw [h, Nat.min_eq_right hl]; omega⟩

/-- A diagonal is reached to its end: that of b, that of a. -/
def FullL (E : Nat → Nat → Bool) (n m e : Nat) (L : Int) : Prop := 0 ≤ m + L ∧ m + L ≤ n ∧ cd E (m + L) L ≤ e
def FullH (E : Nat → Nat → Bool) (n m e : Nat) (H : Int) : Prop := 0 ≤ n - H ∧ n - H ≤ m ∧ cd E n H ≤ e
/-- No full diagonal lies between. -/
def Rel (E : Nat → Nat → Bool) (n m e : Nat) (q : Int) : Prop := (∀ L, FullL E n m e L → L ≤ q) ∧ ∀ H, FullH E n m e H → q ≤ H
theorem full_low {e : Nat} {L : Int} (h : FullL E n m e L) (hD : e < cd E n (n - m)) : FullL E n m (e + 1) (L + 1) := by
  obtain ⟨h0, h1, h2⟩ := h
  have hne : m + L ≠ n := fun h => by
    have : L = n - m := by omega
    subst this
    have e1 : (m : Int) + (n - m) = n := by omega
    rw [e1] at h2; omega
  refine ⟨by omega, by omega, ?_⟩
  have := (cd_drop (E := E) (x := m + L) (q := L) h0 (by omega)).1
  have e1 : (m : Int) + (L + 1) = m + L + 1 := by omega
  rw [e1]; omega
theorem full_high {e : Nat} {H : Int} (h : FullH E n m e H) (hD : e < cd E n (n - m)) : FullH E n m (e + 1) (H - 1) := by
  obtain ⟨h0, h1, h2⟩ := h
  have hne : n - H ≠ m := fun h => by
    have : H = n - m := by omega
    subst this
    omega
  refine ⟨by omega, by omega, ?_⟩
  have := (cd_add (E := E) (x := n) (q := H) (by omega)).1
  omega
theorem rel_back {e : Nat} {q : Int} (hD : e < cd E n (n - m)) (h : Rel E n m (e + 1) q) : Rel E n m e (q - 1) ∧ Rel E n m e (q + 1) := by
  refine ⟨⟨fun L hL => ?_, fun H hH => ?_⟩, ⟨fun L hL => ?_, fun H hH => ?_⟩⟩
  · have := h.1 _ (full_low hL hD); omega
  · have := h.2 _ (full_high hH hD); omega
  · have := h.1 _ (full_low hL hD); omega
  · have := h.2 _ (full_high hH hD); omega
/-- Along a script no full diagonal is met. -/
def Free (E : Nat → Nat → Bool) (n m : Nat) (x q : Int) : Prop := ∀ e, e < cd E x q → (∀ L, FullL E n m e L → L < q) ∧ ∀ H, FullH E n m e H → q < H
theorem free_start : Free E n m n (n - m) := fun e he => ⟨fun L h => by
  have := full_low h he
  have := this.2.1; omega, fun H h => by
  have := full_high h he
  have := this.2.1; omega⟩
theorem free_step {x q x' q' : Int} (h : Free E n m x q) (hp : Pt n m x' q') (hq : q' = q ∨ q' = q - 1 ∨ q' = q + 1) (hc : cd E x' q' ≤ cd E x q) : Free E n m x' q' := by
  intro e he
  obtain ⟨h1, h2⟩ := h e (by omega)
  refine ⟨fun L hL => ?_, fun H hH => ?_⟩
  · have h3 := h1 L hL
    rcases Int.lt_or_le L q' with h4 | h4
    · exact h4
    · exfalso
      obtain rfl : q' = L := by omega
      have := cd_mono (E := E) hp.x0 hp.y0 (show x' ≤ m + q' from by have := hp.ym; omega)
      have := hL.2.2; omega
  · have h3 := h2 H hH
    rcases Int.lt_or_le q' H with h4 | h4
    · exact h4
    · exfalso
      obtain rfl : q' = H := by omega
      have := cd_mono (E := E) hp.x0 hp.y0 hp.xn
      have := hH.2.2; omega
/-- What is asked of a script's point one edit ahead. -/
theorem free_rel {x q : Int} {e : Nat} (h : Free E n m x q) (he : e < cd E x q) : Rel E n m e (q - 1) ∧ Rel E n m e (q + 1) ∧ Rel E n m e q := by
  obtain ⟨h1, h2⟩ := h e he
  refine ⟨⟨fun L hL => ?_, fun H hH => ?_⟩, ⟨fun L hL => ?_, fun H hH => ?_⟩, ⟨fun L hL => ?_, fun H hH => ?_⟩⟩
  all_goals first | (have := h1 L hL; omega) | (have := h2 H hH; omega)
/-- Further along the script there is a point of just so many edits. -/
theorem free_ahead (f : Nat) : ∀ (N : Nat) (x q : Int), (2 * x - q).toNat ≤ N → Pt n m x q → Free E n m x q → f < cd E x q → ∃ x' q', Pt n m x' q' ∧ cd E x' q' = f ∧ Rel E n m f q' ∧ q - (cd E x q - f : Nat) ≤ q' ∧ q' ≤ q + (cd E x q - f : Nat) := by
  intro N
  induction N with
  | zero =>
    intro x q hN hp _ hf
    have := (cd_bd (E := E) hp.x0 hp.y0).2.2.2
    have := hp.x0; have := hp.y0
    omega
  | succ N ih =>
    intro x q hN hp hF hf
    have b := (cd_bd (E := E) hp.x0 hp.y0).2.2.2
    have := hp.x0; have := hp.y0; have := hp.xn; have := hp.ym
    rcases cd_step (E := E) hp.x0 hp.y0 (by omega) with ⟨c1, c2, c3, c4⟩ | ⟨_, c, _⟩
    · have hp' : Pt n m (x - 1) q := ⟨by omega, by omega, by omega, by omega⟩
      obtain ⟨x', q', r1, r2, r3, r4, r5⟩ := ih (x - 1) q (by omega) hp' (free_step hF hp' (.inl rfl) (by omega)) (by omega)
      exact ⟨x', q', r1, r2, r3, by omega, by omega⟩
    · have key : ∀ x1 q1, Pt n m x1 q1 → 2 * x1 - q1 < 2 * x - q → (q1 = q - 1 ∨ q1 = q + 1) → cd E x1 q1 + 1 = cd E x q → ∃ x' q', Pt n m x' q' ∧ cd E x' q' = f ∧ Rel E n m f q' ∧ q - (cd E x q - f : Nat) ≤ q' ∧ q' ≤ q + (cd E x q - f : Nat) := by
        intro x1 q1 hp1 h2 h3 h4
        by_cases hf1 : f = cd E x1 q1
        · refine ⟨x1, q1, hp1, hf1.symm, ?_, by omega, by omega⟩
          have hr := free_rel hF hf
          rcases h3 with rfl | rfl
          · exact hr.1
          · exact hr.2.1
        · obtain ⟨x', q', r1, r2, r3, r4, r5⟩ := ih x1 q1 (by have := hp1.x0; have := hp1.y0; omega) hp1 (free_step hF hp1 (by omega) (by omega)) (by omega)
          exact ⟨x', q', r1, r2, r3, by omega, by omega⟩
      rcases c with ⟨c1, c2⟩ | ⟨c1, c2⟩
      · exact key _ _ ⟨by omega, by omega, by omega, by omega⟩ (by omega) (.inl rfl) c2
      · exact key _ _ ⟨by omega, by omega, by omega, by omega⟩ (by omega) (.inr rfl) c2
end
end My
end Go.Proofs.YtfoalaoanpbmeaaDoor

namespace Go.Proofs.YtfoalaoanpbmeaaDoor
namespace My
/-- A list's point at a place; -1, if there is none. -/
def atF (l : List Int) (p : Int) : Int := if p < 0 ∨ (l.length : Int) ≤ p then -1 else l.getD p.toNat 0
/-- It reaches a point: told by what is left. -/
def Rch (low : Int) (l : List Int) (x q : Int) : Prop := ∃ i : Nat, i < l.length ∧ q = low + 2 * i ∧ x ≤ l.getD i 0
def reachF (low : Int) (l : List Int) (x y : Int) : Bool := decide (0 ≤ x - y - low) && ((x - y - low) % 2 == 0) && decide (x ≤ atF l ((x - y - low) / 2))
theorem atF_in {l : List Int} {i : Nat} (h : i < l.length) : atF l i = l.getD i 0 := by
  unfold atF; rw [if_neg (by omega)]; rfl
theorem atF_out {l : List Int} {p : Int} (h : p < 0 ∨ (l.length : Int) ≤ p) : atF l p = -1 := by
  unfold atF; rw [if_pos h]
theorem reachF_iff {low : Int} {l : List Int} {x y : Int} (hx : 0 ≤ x) : reachF low l x y = true ↔ Rch low l x (x - y) := by
  unfold reachF Rch
  constructor
  · intro h
    simp only [Bool.and_eq_true, decide_eq_true_eq, beq_iff_eq] at h
    obtain ⟨⟨h1, h2⟩, h3⟩ := h
    obtain ⟨i, hi⟩ : ∃ i : Nat, (x - y - low) / 2 = i := ⟨((x - y - low) / 2).toNat, by omega⟩
    rw [hi] at h3
    by_cases hl : i < l.length
    · rw [atF_in hl] at h3
      exact ⟨i, hl, by omega, h3⟩
    · rw [atF_out (by omega)] at h3; omega
  · rintro ⟨i, hi, h1, h2⟩
    have e : (x - y - low) / 2 = i := by omega
    simp only [Bool.and_eq_true, decide_eq_true_eq, beq_iff_eq]
    refine ⟨⟨by omega, by omega⟩, ?_⟩
    rw [e, atF_in hi]; exact h2
section
variable {E : Nat → Nat → Bool} {n m : Nat} {e : Nat} {low : Int} {l : List Int}
structure Good (E : Nat → Nat → Bool) (n m e : Nat) (low : Int) (l : List Int) : Prop where
  pos : 0 < l.length
  par : low % 2 = (e : Int) % 2
  snd : ∀ i : Nat, i < l.length → Pt n m (l.getD i 0) (low + 2 * i) ∧ cd E (l.getD i 0) (low + 2 * i) ≤ e
/-- All that lies on these diagonals, and matters, is reached. -/
def Comp (E : Nat → Nat → Bool) (n m e : Nat) (low : Int) (l : List Int) (A B : Int) : Prop :=
  ∀ x q, Pt n m x q → A ≤ q → q ≤ B → q % 2 = (e : Int) % 2 → Rel E n m e q → cd E x q ≤ e → Rch low l x q
def Slid (E : Nat → Nat → Bool) (n m : Nat) (q s r : Int) : Prop :=
  s ≤ r ∧ r ≤ n ∧ r - q ≤ m ∧ (∀ j, s ≤ j → j < r → E j.toNat (j - q).toNat = true) ∧ (r = n ∨ r - q = m ∨ ¬ E r.toNat (r - q).toNat = true)
def lowF (m : Nat) (low : Int) (l : List Int) : Int := if reachF low l (m + low) m = true then low + 1 else low - 1
def highF (n : Nat) (low : Int) (l : List Int) : Int := if reachF low l n (n - (low + 2 * l.length - 2)) = true then low + 2 * l.length - 3 else low + 2 * l.length - 1
def startF (n m : Nat) (l : List Int) (p q : Int) : Int := min (min (max (atF l p + 1) (atF l (p + 1))) n) (m + q)
structure Next (E : Nat → Nat → Bool) (n m : Nat) (low : Int) (l : List Int) (low' : Int) (l' : List Int) : Prop where
  lo : low' = lowF m low l
  len : (l'.length : Int) = (highF n low l - low') / 2 + 1
  at_ : ∀ i : Nat, i < l'.length → Slid E n m (low' + 2 * i) (startF n m l ((low' - 1 - low) / 2 + i) (low' + 2 * i)) (l'.getD i 0)
theorem Good.rch (h : Good E n m e low l) {x q : Int} (hr : Rch low l x q) (hx : 0 ≤ x) (hq : q ≤ x) : x ≤ n ∧ x - q ≤ m ∧ cd E x q ≤ e := by
  obtain ⟨i, hi, rfl, hl⟩ := hr
  obtain ⟨p, c⟩ := h.snd i hi
  have := p.xn; have := p.ym
  exact ⟨by omega, by omega, Nat.le_trans (cd_mono hx hq hl) c⟩
theorem Good.lows (h : Good E n m e low l) : -(m : Int) ≤ low ∧ low + 2 * l.length - 2 ≤ n := by
  obtain ⟨p, c⟩ := h.snd 0 h.pos
  obtain ⟨p', c'⟩ := h.snd (l.length - 1) (by have := h.pos; omega)
  have := p.x0; have := p.ym; have := p'.y0; have := p'.xn; have := h.pos
  omega
theorem Good.bds (h : Good E n m e low l) : -(e : Int) ≤ low ∧ low + 2 * l.length - 2 ≤ e := by
  obtain ⟨p, c⟩ := h.snd 0 h.pos
  obtain ⟨p', c'⟩ := h.snd (l.length - 1) (by have := h.pos; omega)
  have b1 := cd_bd (E := E) p.x0 p.y0
  have b2 := cd_bd (E := E) p'.x0 p'.y0
  have := h.pos
  omega
theorem Good.low_ (h : Good E n m e low l) (hr : reachF low l (m + low) m = true) : FullL E n m e low := by
  have hl := h.lows
  rw [reachF_iff (by omega)] at hr
  have e1 : (m : Int) + low - m = low := by omega
  rw [e1] at hr
  have := h.rch hr (by omega) (by omega)
  exact ⟨by omega, this.1, this.2.2⟩
theorem Good.low_no (h : Good E n m e low l) (hr : ¬ reachF low l (m + low) m = true) : -(m : Int) ≤ low - 1 := by
  have hl := h.lows
  rcases Int.lt_or_le (-(m : Int)) low with h1 | h1
  · omega
  · exfalso
    apply hr
    rw [reachF_iff (by omega)]
    obtain ⟨p, c⟩ := h.snd 0 h.pos
    have := p.x0; have := p.y0
    exact ⟨0, h.pos, by omega, by omega⟩
theorem Good.high_ (h : Good E n m e low l) (hr : reachF low l n (n - (low + 2 * l.length - 2)) = true) : FullH E n m e (low + 2 * l.length - 2) := by
  have hl := h.lows
  rw [reachF_iff (by omega)] at hr
  have e1 : (n : Int) - (n - (low + 2 * l.length - 2)) = low + 2 * l.length - 2 := by omega
  rw [e1] at hr
  have := h.rch hr (by omega) (by omega)
  exact ⟨by omega, this.2.1, this.2.2⟩
theorem Good.high_no (h : Good E n m e low l) (hr : ¬ reachF low l n (n - (low + 2 * l.length - 2)) = true) : low + 2 * l.length - 1 ≤ n := by
  have hl := h.lows
  have hp := h.pos
  rcases Int.lt_or_le (low + 2 * l.length - 2) n with h1 | h1
  · omega
  · exfalso
    apply hr
    rw [reachF_iff (by omega)]
    obtain ⟨p, c⟩ := h.snd (l.length - 1) (by omega)
    have := p.x0; have := p.y0
    exact ⟨l.length - 1, by omega, by omega, by omega⟩
theorem Good.two (h : Good E n m e low l) (hD : e < cd E n (n - m)) : lowF m low l ≤ highF n low l := by
  have hp := h.pos
  unfold lowF highF
  split
  · rename_i h1
    split
    · rename_i h2
      have f1 := h.low_ h1
      have f2 := h.high_ h2
      by_cases hl : l.length = 1
      · exfalso
        rw [hl] at f2
        have e1 : low + 2 * ((1 : Nat) : Int) - 2 = low := by omega
        rw [e1] at f2
        have hf := f1.2.1; have hg := f2.2.1
        have : low = n - m := by omega
        rw [this] at f2
        have := f2.2.2
        omega
      · omega
    · omega
  · split <;> omega
/-- What a point of the list behind starts from. -/
theorem start_of (h : Good E n m e low l) {p q : Int} (hpq : q = low + 2 * p + 1) (hp0 : -1 ≤ p) (hp1 : p < l.length) (hq0 : -(m : Int) ≤ q) (hq1 : q ≤ n) :
    Pt n m (startF n m l p q) q ∧ cd E (startF n m l p q) q ≤ e + 1 := by
  have hlen := h.pos
  have h1 : p = -1 ∨ ∃ i : Nat, p = i ∧ i < l.length := by
    rcases Int.lt_or_le p 0 with h | h
    · left; omega
    · exact .inr ⟨p.toNat, by omega, by omega⟩
  have A1 : (p = -1 ∧ atF l p = -1) ∨ (Pt n m (atF l p) (q - 1) ∧ cd E (atF l p) (q - 1) ≤ e) := by
    rcases h1 with h1 | ⟨i, rfl, hi⟩
    · exact .inl ⟨h1, atF_out (by omega)⟩
    · have := h.snd i hi
      rw [← atF_in hi] at this
      have e1 : low + 2 * (i : Int) = q - 1 := by omega
      rw [e1] at this; exact .inr this
  have A2 : (p = (l.length : Int) - 1 ∧ atF l (p + 1) = -1) ∨ (Pt n m (atF l (p + 1)) (q + 1) ∧ cd E (atF l (p + 1)) (q + 1) ≤ e) := by
    by_cases hp2 : p = (l.length : Int) - 1
    · exact .inl ⟨hp2, atF_out (by omega)⟩
    · obtain ⟨i, hi⟩ : ∃ i : Nat, p + 1 = i := ⟨(p + 1).toNat, by omega⟩
      have := h.snd i (by omega)
      rw [← atF_in (show i < l.length by omega), ← hi] at this
      have e1 : low + 2 * (p + 1) = q + 1 := by omega
      rw [e1] at this; exact .inr this
  have hpt : Pt n m (startF n m l p q) q := by
    unfold startF
    rcases A1 with ⟨a1, a2⟩ | ⟨a1, _⟩ <;> rcases A2 with ⟨b1, b2⟩ | ⟨b1, _⟩
    · omega
    · have := b1.x0; have := b1.y0; exact ⟨by omega, by omega, by omega, by omega⟩
    · have := a1.x0; have := a1.y0; exact ⟨by omega, by omega, by omega, by omega⟩
    · have := a1.x0; have := a1.y0; exact ⟨by omega, by omega, by omega, by omega⟩
  refine ⟨hpt, ?_⟩
  have hle : startF n m l p q ≤ atF l p + 1 ∨ startF n m l p q ≤ atF l (p + 1) := by unfold startF; omega
  have hx := hpt.x0; have hy := hpt.y0
  have viaA : Pt n m (atF l p) (q - 1) → cd E (atF l p) (q - 1) ≤ e → startF n m l p q ≤ atF l p + 1 → cd E (startF n m l p q) q ≤ e + 1 := fun a1 a2 hl => by
    have h2 := cd_mono (E := E) hx hy hl
    have h3 := (cd_drop (E := E) a1.x0 a1.y0).1
    have e1 : q - 1 + 1 = q := by omega
    rw [e1] at h3; omega
  have viaB : Pt n m (atF l (p + 1)) (q + 1) → cd E (atF l (p + 1)) (q + 1) ≤ e → startF n m l p q ≤ atF l (p + 1) → cd E (startF n m l p q) q ≤ e + 1 := fun a1 a2 hl => by
    have h2 := cd_mono (E := E) hx hy hl
    have h3 := (cd_add (E := E) a1.y0).1
    have e1 : q + 1 - 1 = q := by omega
    rw [e1] at h3; omega
  rcases A1 with ⟨a1, a2⟩ | ⟨a1, a3⟩
  · rcases A2 with ⟨b1, b2⟩ | ⟨b1, b3⟩
    · omega
    · refine viaB b1 b3 ?_
      have := b1.x0
      omega
  · rcases A2 with ⟨b1, b2⟩ | ⟨b1, b3⟩
    · refine viaA a1 a3 ?_
      have := a1.x0
      omega
    · rcases hle with hl | hl
      · exact viaA a1 a3 hl
      · exact viaB b1 b3 hl
theorem slid_cost {q s r : Int} (h : Slid E n m q s r) (hs : Pt n m s q) : cd E r q = cd E s q ∧ Pt n m r q := by
  obtain ⟨h1, h2, h3, h4, h5⟩ := h
  have hx := hs.x0; have hy := hs.y0
  refine ⟨?_, ⟨by omega, by omega, by omega, by omega⟩⟩
  have key : ∀ k : Nat, s + k ≤ r → cd E (s + k) q = cd E s q := by
    intro k
    induction k with
    | zero => intro _; rw [show s + ((0 : Nat) : Int) = s by omega]
    | succ k ih =>
      intro hk
      have h6 := h4 (s + k) (by omega) (by omega)
      rw [← ih (by omega)]
      unfold cd
      have e1 : (s + ((k + 1 : Nat) : Int)).toNat = (s + k).toNat + 1 := by omega
      have e2 : (s + ((k + 1 : Nat) : Int) - q).toNat = (s + k - q).toNat + 1 := by omega
      rw [e1, e2, cst_yes h6]
  have := key (r - s).toNat (by omega)
  rwa [show s + (((r - s).toNat : Nat) : Int) = r by omega] at this
theorem lowF_cases (h : Good E n m e low l) : (lowF m low l = low + 1 ∧ FullL E n m e low) ∨ (lowF m low l = low - 1 ∧ -(m : Int) ≤ low - 1) := by
  unfold lowF
  split
  · rename_i h1; exact .inl ⟨rfl, h.low_ h1⟩
  · rename_i h1; exact .inr ⟨rfl, h.low_no h1⟩
theorem highF_cases (h : Good E n m e low l) : (highF n low l = low + 2 * l.length - 3 ∧ FullH E n m e (low + 2 * l.length - 2)) ∨ (highF n low l = low + 2 * l.length - 1 ∧ low + 2 * l.length - 1 ≤ n) := by
  unfold highF
  split
  · rename_i h1; exact .inl ⟨rfl, h.high_ h1⟩
  · rename_i h1; exact .inr ⟨rfl, h.high_no h1⟩
/-- Where a point of the list behind stands in the list ahead. -/
theorem place_of (h : Good E n m e low l) {low' : Int} (hl : low' = lowF m low l) {q : Int} {i : Nat} (hq : q = low' + 2 * i) (hq2 : q ≤ highF n low l) :
    q = low + 2 * ((low' - 1 - low) / 2 + i) + 1 ∧ -1 ≤ (low' - 1 - low) / 2 + i ∧ (low' - 1 - low) / 2 + i < l.length ∧ -(m : Int) ≤ q ∧ q ≤ n := by
  have hlo := h.lows
  have hp := h.pos
  rcases lowF_cases h with ⟨c, _⟩ | ⟨c, c2⟩ <;> rcases highF_cases h with ⟨d, _⟩ | ⟨d, d2⟩ <;> rw [c] at hl <;> rw [d] at hq2 <;> subst hl <;> omega
variable {low' : Int} {l' : List Int}
theorem Next.inn (h : Good E n m e low l) (hN : Next E n m low l low' l') (hD : e < cd E n (n - m)) {i : Nat} (hi : i < l'.length) : low' + 2 * (i : Int) ≤ highF n low l := by
  have h1 := hN.len
  have h2 := h.two hD
  have h3 := hN.lo
  omega
theorem Next.good (h : Good E n m e low l) (hN : Next E n m low l low' l') (hD : e < cd E n (n - m)) : Good E n m (e + 1) low' l' := by
  refine ⟨?_, ?_, fun i hi => ?_⟩
  · have h1 := hN.len
    have h2 := h.two hD
    have h3 := hN.lo
    omega
  · have h1 := hN.lo
    have h2 := h.par
    rcases lowF_cases h with ⟨c, _⟩ | ⟨c, _⟩ <;> rw [c] at h1 <;> omega
  · obtain ⟨p1, p2, p3, p4, p5⟩ := place_of h hN.lo rfl (hN.inn h hD hi)
    obtain ⟨s1, s2⟩ := start_of h p1 p2 p3 p4 p5
    obtain ⟨t1, t2⟩ := slid_cost (hN.at_ i hi) s1
    exact ⟨t2, by rw [t1]; exact s2⟩
/-- What the list behind reaches. -/
theorem Next.reach (h : Good E n m e low l) (hN : Next E n m low l low' l') (hD : e < cd E n (n - m)) {x q : Int} (hpt : Pt n m x q) (hq : q % 2 = ((e + 1 : Nat) : Int) % 2) (hR : Rel E n m (e + 1) q) (hB : Rch low l (x - 1) (q - 1) ∨ Rch low l x (q + 1)) :
    ∃ i : Nat, i < l'.length ∧ q = low' + 2 * i ∧ x ≤ startF n m l ((low' - 1 - low) / 2 + i) q := by
  have hx := hpt.x0; have hxn := hpt.xn; have hym := hpt.ym
  have hlen := hN.len
  have hlow := hN.lo
  have hpos := h.pos
  have htwo := h.two hD
  have hpar := h.par
  have hin : low' ≤ q ∧ q ≤ highF n low l := by
    have b : low + 1 ≤ q + 2 ∧ q ≤ low + 2 * l.length - 1 ∧ (low - 1 ≤ q) := by
      rcases hB with ⟨i, hi, h1, _⟩ | ⟨i, hi, h1, _⟩ <;> omega
    refine ⟨?_, ?_⟩
    · rcases lowF_cases h with ⟨c, f⟩ | ⟨c, _⟩
      · have := hR.1 _ (full_low f hD); omega
      · omega
    · rcases highF_cases h with ⟨c, f⟩ | ⟨c, _⟩
      · have := hR.2 _ (full_high f hD); omega
      · omega
  have hpar' : low' % 2 = ((e + 1 : Nat) : Int) % 2 := (hN.good h hD).par
  obtain ⟨i, hi⟩ : ∃ i : Nat, q = low' + 2 * i := ⟨((q - low') / 2).toNat, by omega⟩
  have hil : i < l'.length := by
    have : (highF n low l - low') % 2 = 0 := by
      rcases lowF_cases h with ⟨c, _⟩ | ⟨c, _⟩ <;> rcases highF_cases h with ⟨d, _⟩ | ⟨d, _⟩ <;> rw [hlow, c, d] <;> omega
    omega
  refine ⟨i, hil, hi, ?_⟩
  obtain ⟨p1, p2, p3, p4, p5⟩ := place_of h hlow hi hin.2
  have : x ≤ atF l ((low' - 1 - low) / 2 + i) + 1 ∨ x ≤ atF l ((low' - 1 - low) / 2 + i + 1) := by
    rcases hB with ⟨j, hj, h1, h2⟩ | ⟨j, hj, h1, h2⟩
    · left
      have e1 : (low' - 1 - low) / 2 + i = (j : Int) := by omega
      rw [e1, atF_in hj]; omega
    · right
      have e1 : (low' - 1 - low) / 2 + i + 1 = (j : Int) := by omega
      rw [e1, atF_in hj]; exact h2
  unfold startF
  omega
theorem Next.comp (h : Good E n m e low l) (hN : Next E n m low l low' l') (hD : e < cd E n (n - m)) {A B : Int} (hC : Comp E n m e low l A B) : Comp E n m (e + 1) low' l' (A + 1) (B - 1) := by
  have step : ∀ x q, Pt n m x q → A + 1 ≤ q → q ≤ B - 1 → q % 2 = ((e + 1 : Nat) : Int) % 2 → Rel E n m (e + 1) q → (Rch low l (x - 1) (q - 1) ∨ Rch low l x (q + 1)) → Rch low' l' x q := by
    intro x q hpt hA hB hq hR hr
    obtain ⟨i, h1, h2, h3⟩ := hN.reach h hD hpt hq hR hr
    have := (hN.at_ i h1).1
    rw [← h2] at this
    exact ⟨i, h1, h2, by omega⟩
  have main : ∀ (N : Nat) (x q : Int), (2 * x - q).toNat ≤ N → Pt n m x q → A + 1 ≤ q → q ≤ B - 1 → q % 2 = ((e + 1 : Nat) : Int) % 2 → Rel E n m (e + 1) q → cd E x q ≤ e + 1 → 0 < x ∨ q < x → Rch low' l' x q := by
    intro N
    induction N with
    | zero => intro x q hN hpt hA hB hq hR hc hne; have := hpt.x0; have := hpt.y0; omega
    | succ N ih =>
      intro x q hNN hpt hA hB hq hR hc hne
      have hx := hpt.x0; have hy := hpt.y0; have hxn := hpt.xn; have hym := hpt.ym
      have hrb := rel_back hD hR
      rcases cd_step (E := E) hx hy hne with ⟨c1, c2, c3, c4⟩ | ⟨_, c, _⟩
      · -- kept: from the point ahead on its diagonal
        have hp' : Pt n m (x - 1) q := ⟨by omega, by omega, by omega, by omega⟩
        have hr : Rch low' l' (x - 1) q := by
          by_cases hz : 0 < x - 1 ∨ q < x - 1
          · exact ih (x - 1) q (by omega) hp' hA hB hq hR (by omega) hz
          · -- nothing is left there: by a neighbour
            have hx1 : x = 1 := by omega
            have hq0 : q = 0 := by omega
            subst hx1 hq0
            refine step _ _ hp' hA hB hq hR (.inr ?_)
            have hp2 : Pt n m 1 1 := ⟨by omega, by omega, by omega, by omega⟩
            have hc2 : cd E 1 1 ≤ e := by unfold cd; rw [show (1 : Int).toNat = 1 from rfl, show ((1 : Int) - 1).toNat = 0 from rfl, cst_r]; omega
            have := hC 1 1 hp2 (by omega) (by omega) (by omega) hrb.2 hc2
            obtain ⟨i, h1, h2, h3⟩ := this
            exact ⟨i, h1, by omega, by omega⟩
        obtain ⟨i, h1, h2, h3⟩ := hr
        refine ⟨i, h1, h2, ?_⟩
        obtain ⟨_, _, _, _, h8⟩ := hN.at_ i h1
        rw [← h2] at h8
        rcases Int.lt_or_le (l'.getD i 0) x with h9 | h9
        · exfalso
          have e1 : l'.getD i 0 = x - 1 := by omega
          rw [e1] at h8
          have e2 : x - 1 - q = x - q - 1 := by omega
          rw [e2] at h8
          rcases h8 with h8 | h8 | h8
          · omega
          · omega
          · exact h8 c3
        · exact h9
      · rcases c with ⟨c1, c2⟩ | ⟨c1, c2⟩
        · exact step x q hpt hA hB hq hR (.inl (hC _ _ ⟨by omega, by omega, by omega, by omega⟩ (by omega) (by omega) (by omega) hrb.1 (by omega)))
        · exact step x q hpt hA hB hq hR (.inr (hC _ _ ⟨by omega, by omega, by omega, by omega⟩ (by omega) (by omega) (by omega) hrb.2 (by omega)))
  intro x q hpt hA hB hq hR hc
  have hx := hpt.x0; have hy := hpt.y0
  by_cases hz : 0 < x ∨ q < x
  · exact main _ x q (Nat.le_refl _) hpt hA hB hq hR hc hz
  · have hx1 : x = 0 := by omega
    have hq0 : q = 0 := by omega
    subst hx1 hq0
    have hrb := rel_back hD hR
    by_cases hn : 0 < n
    · refine step _ _ hpt hA hB hq hR (.inr ?_)
      have hp2 : Pt n m 1 1 := ⟨by omega, by omega, by omega, by omega⟩
      have hc2 : cd E 1 1 ≤ e := by unfold cd; rw [show (1 : Int).toNat = 1 from rfl, show ((1 : Int) - 1).toNat = 0 from rfl, cst_r]; omega
      obtain ⟨i, h1, h2, h3⟩ := hC 1 1 hp2 (by omega) (by omega) (by omega) hrb.2 hc2
      exact ⟨i, h1, by omega, by omega⟩
    · by_cases hm : 0 < m
      · refine step _ _ hpt hA hB hq hR (.inl ?_)
        have hp2 : Pt n m 0 (-1) := ⟨by omega, by omega, by omega, by omega⟩
        have hc2 : cd E 0 (-1) ≤ e := by unfold cd; rw [show (0 : Int).toNat = 0 from rfl, show ((0 : Int) - -1).toNat = 1 from rfl, cst_l]; omega
        obtain ⟨i, h1, h2, h3⟩ := hC 0 (-1) hp2 (by omega) (by omega) (by omega) hrb.1 hc2
        exact ⟨i, h1, by omega, by omega⟩
      · exfalso
        have hn0 : n = 0 := by omega
        have hm0 : m = 0 := by omega
        subst hn0 hm0
        unfold cd at hD
        rw [show (((0 : Nat) : Int)).toNat = 0 from rfl, cst_l] at hD
        omega
end
end My
end Go.Proofs.YtfoalaoanpbmeaaDoor
