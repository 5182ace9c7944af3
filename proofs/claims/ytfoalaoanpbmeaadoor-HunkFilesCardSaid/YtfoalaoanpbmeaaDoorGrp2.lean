/-
  Merged: MyNear, MyEd.
-/
import Derived.Test.YtfoalaoanpbmeaaDoorGrp1
namespace Go.Proofs.YtfoalaoanpbmeaaDoor
namespace My
section
variable {E : Nat → Nat → Bool} {n m : Nat} {e : Nat} {low : Int} {l : List Int}
theorem first_good {r : Int} (h : Slid E n m 0 0 r) : Good E n m 0 0 [r] := by
  have hp : Pt n m 0 0 := ⟨by omega, by omega, by omega, by omega⟩
  obtain ⟨h1, h2⟩ := slid_cost h hp
  refine ⟨by simp, rfl, fun i hi => ?_⟩
  obtain rfl : i = 0 := by simpa using hi
  refine ⟨h2, ?_⟩
  show cd E r 0 ≤ 0
  rw [h1]; unfold cd; rw [show (0 : Int).toNat = 0 from rfl, cst_l]; exact Nat.le_refl _
theorem first_comp {r : Int} (h : Slid E n m 0 0 r) (A B : Int) : Comp E n m 0 0 [r] A B := by
  intro x q hp _ _ _ _ hc
  have hx := hp.x0; have hy := hp.y0; have hxn := hp.xn; have hym := hp.ym
  have b := cd_bd (E := E) hx hy
  obtain rfl : q = 0 := by omega
  refine ⟨0, by simp, by omega, ?_⟩
  show x ≤ r
  obtain ⟨h1, h2, h3, h4, h5⟩ := h
  rcases Int.lt_or_le r x with hr | hr
  · exfalso
    rcases h5 with h5 | h5 | h5
    · omega
    · omega
    · have h6 := cd_mono (E := E) (q := 0) (show 0 ≤ r + 1 by omega) (by omega) (show r + 1 ≤ x by omega)
      have h7 : cd E (r + 1) 0 = 1 + min (cst E r.toNat (r.toNat + 1)) (cst E (r.toNat + 1) r.toNat) := by
        unfold cd
        have e1 : (r + 1).toNat = r.toNat + 1 := by omega
        have e2 : (r + 1 - 0).toNat = r.toNat + 1 := by omega
        rw [e1, e2, cst_no]
        have e3 : (r - 0).toNat = r.toNat := by omega
        rwa [e3] at h5
      omega
  · exact hr
/-- The part of a list near a diagonal. -/
def nearA (low c : Int) : Int := max 0 (c - 64 - low + 1) / 2
def nearZ (low : Int) (l : List Int) (c : Int) : Int := max 0 (low + 2 * l.length - 2 - c - 64 + 1) / 2
def nearL (low : Int) (l : List Int) (c : Int) : List Int := (l.drop (nearA low c).toNat).take (l.length - (nearZ low l c).toNat - (nearA low c).toNat)
theorem near_room {c x q : Int} (h : Rch low l x q) (h1 : c - 64 ≤ q) (h2 : q ≤ c + 64) : 0 ≤ nearA low c ∧ 0 ≤ nearZ low l c ∧ nearA low c + nearZ low l c + 1 ≤ l.length := by
  obtain ⟨i, hi, h3, _⟩ := h
  unfold nearA nearZ
  omega
theorem near_get {c x q : Int} (h : Rch low l x q) (h1 : c - 64 ≤ q) (h2 : q ≤ c + 64) : ((nearL low l c).length : Int) = l.length - nearZ low l c - nearA low c ∧ ∀ i, i < (nearL low l c).length → (nearL low l c).getD i 0 = l.getD ((nearA low c).toNat + i) 0 := by
  have hr := near_room h h1 h2
  have hl : (nearL low l c).length = l.length - (nearZ low l c).toNat - (nearA low c).toNat := by
    unfold nearL; rw [List.length_take, List.length_drop]; omega
  refine ⟨by omega, fun i hi => ?_⟩
  unfold nearL at hi ⊢
  rw [List.length_take, List.length_drop] at hi
  simp only [List.getD_eq_getElem?_getD]
  rw [List.getElem?_take_of_lt (by omega), List.getElem?_drop]
theorem near_good {c x q : Int} (hG : Good E n m e low l) (h : Rch low l x q) (h1 : c - 64 ≤ q) (h2 : q ≤ c + 64) : Good E n m e (low + 2 * nearA low c) (nearL low l c) := by
  have hr := near_room h h1 h2
  obtain ⟨g1, g2⟩ := near_get h h1 h2
  refine ⟨by omega, by have := hG.par; omega, fun i hi => ?_⟩
  have := hG.snd ((nearA low c).toNat + i) (by omega)
  rw [g2 i hi]
  have e1 : low + 2 * (((nearA low c).toNat + i : Nat) : Int) = low + 2 * nearA low c + 2 * i := by omega
  rwa [e1] at this
theorem near_comp {c x q : Int} (hC : ∀ A B, Comp E n m e low l A B) (h : Rch low l x q) (h1 : c - 64 ≤ q) (h2 : q ≤ c + 64) : Comp E n m e (low + 2 * nearA low c) (nearL low l c) (c - 64) (c + 64) := by
  have hr := near_room h h1 h2
  obtain ⟨g1, g2⟩ := near_get h h1 h2
  intro x' q' hp hA hB hq hR hc
  obtain ⟨i, hi, h3, h4⟩ := hC q' q' x' q' hp (Int.le_refl _) (Int.le_refl _) hq hR hc
  have hlo : nearA low c ≤ i := by unfold nearA; omega
  have hhi : (i : Int) < l.length - nearZ low l c := by unfold nearZ; omega
  refine ⟨i - (nearA low c).toNat, by omega, by omega, ?_⟩
  rw [g2 _ (by omega)]
  have e1 : (nearA low c).toNat + (i - (nearA low c).toNat) = i := by omega
  rwa [e1]
/-- A list's answer to what a script asks of it. -/
theorem ask {x q A B : Int} (hG : Good E n m e low l) (hC : Comp E n m e low l A B) (hp : Pt n m x q) (hF : Free E n m x q) (he : cd E x q = e + 1) (hA : A ≤ q - 1) (hB : q - 1 ≤ B) (hx : 0 < x) :
    reachF low l (x - 1) (x - q) = decide (cd E (x - 1) (q - 1) ≤ e) := by
  have h0 := hp.y0; have h1 := hp.xn; have h2 := hp.ym
  have e1 : x - 1 - (x - q) = q - 1 := by omega
  rw [Bool.eq_iff_iff, reachF_iff (by omega), decide_eq_true_eq, e1]
  constructor
  · intro h
    exact (hG.rch h (by omega) (by omega)).2.2
  · intro h
    have b := (cd_bd (E := E) (show 0 ≤ x by omega) h0).2.2.1
    refine hC _ _ ⟨by omega, by omega, by omega, by omega⟩ hA hB (by omega) ?_ h
    exact (free_rel hF (by omega)).1
/-- What the point's kept list holds near it. -/
theorem kept_near {x q : Int} (f : Nat) (hp : Pt n m x q) (hF : Free E n m x q) (hf : f < cd E x q) (h64 : cd E x q ≤ f + 64) (hC : ∀ A B, Comp E n m f low l A B) : ∃ x' q', Rch low l x' q' ∧ q - 64 ≤ q' ∧ q' ≤ q + 64 := by
  obtain ⟨x', q', r1, r2, r3, r4, r5⟩ := free_ahead f _ x q (Nat.le_refl _) hp hF hf
  have b := (cd_bd (E := E) r1.x0 r1.y0).2.2.1
  exact ⟨x', q', hC q' q' x' q' r1 (Int.le_refl _) (Int.le_refl _) (by omega) r3 (by omega), by omega, by omega⟩
/-- The list that ends the search. -/
theorem find_end (hG : Good E n m e low l) (hC : ∀ A B, Comp E n m e low l A B) (hle : e ≤ cd E n (n - m)) : reachF low l n m = decide (cd E n (n - m) ≤ e) := by
  rw [Bool.eq_iff_iff, reachF_iff (by omega), decide_eq_true_eq]
  constructor
  · intro h; exact (hG.rch h (by omega) (by omega)).2.2
  · intro h
    have hp : Pt n m n (n - m) := ⟨by omega, by omega, by omega, by omega⟩
    have b := (cd_bd (E := E) hp.x0 hp.y0).2.2.1
    refine hC _ _ _ _ hp (Int.le_refl _) (Int.le_refl _) (by omega) ⟨fun L hL => ?_, fun H hH => ?_⟩ h
    · have := hL.2.1; omega
    · have := hH.2.1; omega
end
/-- The script, where so many are left. -/
def mv (E : Nat → Nat → Bool) : Nat → Nat → List Int
  | 0, 0 => []
  | 0, y + 1 => 3 :: mv E 0 y
  | x + 1, 0 => 2 :: mv E x 0
  | x + 1, y + 1 => if E x y then 1 :: mv E x y else if cst E x (y + 1) ≤ cst E (x + 1) y then 2 :: mv E x (y + 1) else 3 :: mv E (x + 1) y
termination_by x y => x + y
section
variable {E : Nat → Nat → Bool}
theorem mv_nil : mv E 0 0 = [] := by rw [mv]
theorem mv_l (y : Nat) : mv E 0 (y + 1) = 3 :: mv E 0 y := by rw [mv]
theorem mv_r (x : Nat) : mv E (x + 1) 0 = 2 :: mv E x 0 := by rw [mv]
theorem mv_yes {x y : Nat} (h : E x y = true) : mv E (x + 1) (y + 1) = 1 :: mv E x y := by rw [mv, if_pos h]
theorem mv_drop {x y : Nat} (h : ¬ E x y = true) (hc : cst E x (y + 1) ≤ cst E (x + 1) y) : mv E (x + 1) (y + 1) = 2 :: mv E x (y + 1) := by rw [mv, if_neg h, if_pos hc]
theorem mv_add {x y : Nat} (h : ¬ E x y = true) (hc : ¬ cst E x (y + 1) ≤ cst E (x + 1) y) : mv E (x + 1) (y + 1) = 3 :: mv E (x + 1) y := by rw [mv, if_neg h, if_neg hc]
theorem mv_len (N : Nat) : ∀ x y, x + y ≤ N → (mv E x y).length ≤ x + y := by
  induction N with
  | zero =>
    intro x y h
    obtain rfl : x = 0 := by omega
    obtain rfl : y = 0 := by omega
    simp [mv_nil]
  | succ N ih =>
    intro x y h
    cases x with
    | zero => cases y with
      | zero => simp [mv_nil]
      | succ y => rw [mv_l, List.length_cons]; have := ih 0 y (by omega); omega
    | succ x => cases y with
      | zero => rw [mv_r, List.length_cons]; have := ih x 0 (by omega); omega
      | succ y =>
        by_cases he : E x y = true
        · rw [mv_yes he, List.length_cons]; have := ih x y (by omega); omega
        · by_cases hc : cst E x (y + 1) ≤ cst E (x + 1) y
          · rw [mv_drop he hc, List.length_cons]; have := ih x (y + 1) (by omega); omega
          · rw [mv_add he hc, List.length_cons]; have := ih (x + 1) y (by omega); omega
theorem cst_congr {E' : Nat → Nat → Bool} (N : Nat) : ∀ x y, x + y ≤ N → (∀ i j, i < x → j < y → E i j = E' i j) → cst E x y = cst E' x y ∧ mv E x y = mv E' x y := by
  induction N with
  | zero =>
    intro x y h _
    obtain rfl : x = 0 := by omega
    obtain rfl : y = 0 := by omega
    simp [cst_l, mv_nil]
  | succ N ih =>
    intro x y h hE
    cases x with
    | zero => cases y with
      | zero => simp [cst_l, mv_nil]
      | succ y => rw [mv_l, mv_l, (ih 0 y (by omega) (fun i j hi => by omega)).2]; simp [cst_l]
    | succ x => cases y with
      | zero => rw [mv_r, mv_r, (ih x 0 (by omega) (fun i j _ hj => by omega)).2]; simp [cst_r]
      | succ y =>
        have h1 := ih x y (by omega) (fun i j hi hj => hE i j (by omega) (by omega))
        have h2 := ih x (y + 1) (by omega) (fun i j hi hj => hE i j (by omega) (by omega))
        have h3 := ih (x + 1) y (by omega) (fun i j hi hj => hE i j (by omega) (by omega))
        have h4 := hE x y (by omega) (by omega)
        by_cases he : E x y = true
        · rw [mv_yes he, mv_yes (h4 ▸ he), cst_yes he, cst_yes (h4 ▸ he), h1.1, h1.2]; exact ⟨rfl, rfl⟩
        · have he' : ¬ E' x y = true := h4 ▸ he
          by_cases hc : cst E x (y + 1) ≤ cst E (x + 1) y
          · have hc' : cst E' x (y + 1) ≤ cst E' (x + 1) y := by rw [← h2.1, ← h3.1]; exact hc
            rw [mv_drop he hc, mv_drop he' hc', cst_no he, cst_no he', h2.1, h3.1, h2.2]; exact ⟨rfl, rfl⟩
          · have hc' : ¬ cst E' x (y + 1) ≤ cst E' (x + 1) y := by rw [← h2.1, ← h3.1]; exact hc
            rw [mv_add he hc, mv_add he' hc', cst_no he, cst_no he', h2.1, h3.1, h3.2]; exact ⟨rfl, rfl⟩
end
/-- Whether two rows' numbers are the same, where so many are left behind them. -/
def eq2 (a b : List Int) (i j : Nat) : Bool := a.getD (a.length - 1 - i) 0 == b.getD (b.length - 1 - j) 0
def dist (a b : List Int) : Nat := cst (eq2 a b) a.length b.length
def scr (a b : List Int) : List Int := mv (eq2 a b) a.length b.length
section
variable {a b : List Int} {p q : Int}
theorem eq2_l {i j : Nat} (hi : i < a.length) : eq2 (p :: a) b i j = eq2 a b i j := by
  unfold eq2
  have e : (p :: a).length - 1 - i = (a.length - 1 - i) + 1 := by simp; omega
  rw [e]; simp
theorem eq2_r {i j : Nat} (hj : j < b.length) : eq2 a (q :: b) i j = eq2 a b i j := by
  unfold eq2
  have e : (q :: b).length - 1 - j = (b.length - 1 - j) + 1 := by simp; omega
  rw [e]; simp
theorem eq2_top : eq2 (p :: a) (q :: b) a.length b.length = (p == q) := by
  unfold eq2
  simp
theorem sub_l {x y : Nat} (hx : x ≤ a.length) : cst (eq2 (p :: a) b) x y = cst (eq2 a b) x y ∧ mv (eq2 (p :: a) b) x y = mv (eq2 a b) x y := cst_congr _ x y (Nat.le_refl _) fun i j hi _ => eq2_l (by omega)
theorem sub_r {x y : Nat} (hy : y ≤ b.length) : cst (eq2 a (q :: b)) x y = cst (eq2 a b) x y ∧ mv (eq2 a (q :: b)) x y = mv (eq2 a b) x y := cst_congr _ x y (Nat.le_refl _) fun i j _ hj => eq2_r (by omega)
theorem dist_l : dist [] b = b.length := cst_l _
theorem dist_r : dist a [] = a.length := cst_r _
theorem dist_nn : dist (p :: a) (q :: b) = if p = q then dist a b else 1 + min (dist a (q :: b)) (dist (p :: a) b) := by
  unfold dist
  show cst _ (a.length + 1) (b.length + 1) = _
  rw [cst_s, eq2_top]
  have e1 : cst (eq2 (p :: a) (q :: b)) a.length b.length = cst (eq2 a b) a.length b.length := by rw [(sub_l (Nat.le_refl _)).1, (sub_r (Nat.le_refl _)).1]
  have e2 : cst (eq2 (p :: a) (q :: b)) a.length (b.length + 1) = cst (eq2 a (q :: b)) a.length (q :: b).length := (sub_l (Nat.le_refl _)).1
  have e3 : cst (eq2 (p :: a) (q :: b)) (a.length + 1) b.length = cst (eq2 (p :: a) b) (p :: a).length b.length := (sub_r (Nat.le_refl _)).1
  rw [e1, e2, e3]
  by_cases h : p = q <;> simp [h]
theorem scr_nil : scr [] [] = [] := mv_nil
theorem scr_l : scr [] (q :: b) = 3 :: scr [] b := by
  unfold scr
  show mv _ 0 (b.length + 1) = _
  rw [mv_l, (sub_r (Nat.le_refl _)).2]; rfl
theorem scr_r : scr (p :: a) [] = 2 :: scr a [] := by
  unfold scr
  show mv _ (a.length + 1) 0 = _
  rw [mv_r, (sub_l (Nat.le_refl _)).2]; rfl
theorem scr_nn : scr (p :: a) (q :: b) = if p = q then 1 :: scr a b else if dist a (q :: b) ≤ dist (p :: a) b then 2 :: scr a (q :: b) else 3 :: scr (p :: a) b := by
  have e1 : mv (eq2 (p :: a) (q :: b)) a.length b.length = scr a b := by rw [(sub_l (Nat.le_refl _)).2, (sub_r (Nat.le_refl _)).2]; rfl
  have e2 : mv (eq2 (p :: a) (q :: b)) a.length (b.length + 1) = scr a (q :: b) := (sub_l (Nat.le_refl _)).2
  have e3 : mv (eq2 (p :: a) (q :: b)) (a.length + 1) b.length = scr (p :: a) b := (sub_r (Nat.le_refl _)).2
  have d2 : cst (eq2 (p :: a) (q :: b)) a.length (b.length + 1) = dist a (q :: b) := (sub_l (Nat.le_refl _)).1
  have d3 : cst (eq2 (p :: a) (q :: b)) (a.length + 1) b.length = dist (p :: a) b := (sub_r (Nat.le_refl _)).1
  show mv _ (a.length + 1) (b.length + 1) = _
  by_cases h : p = q
  · rw [if_pos h, mv_yes (by rw [eq2_top]; simp [h]), e1]
  · have hne : ¬ eq2 (p :: a) (q :: b) a.length b.length = true := by rw [eq2_top]; simp [h]
    rw [if_neg h]
    by_cases hc : dist a (q :: b) ≤ dist (p :: a) b
    · rw [if_pos hc, mv_drop hne (by rw [d2, d3]; exact hc), e2]
    · rw [if_neg hc, mv_add hne (by rw [d2, d3]; exact hc), e3]
theorem dist_drop : dist (p :: a) b ≤ dist a b + 1 ∧ dist a b ≤ dist (p :: a) b + 1 := by
  unfold dist
  have := lipX (E := eq2 (p :: a) b) a.length b.length
  rw [(sub_l (Nat.le_refl _)).1] at this
  exact this
theorem dist_add : dist a (q :: b) ≤ dist a b + 1 ∧ dist a b ≤ dist a (q :: b) + 1 := by
  unfold dist
  have := lipY (E := eq2 a (q :: b)) a.length b.length
  rw [(sub_r (Nat.le_refl _)).1] at this
  exact this
end
theorem dist_symm (N : Nat) : ∀ a b : List Int, a.length + b.length ≤ N → dist a b = dist b a := by
  induction N with
  | zero =>
    intro a b h
    obtain rfl : a = [] := List.length_eq_zero_iff.1 (by omega)
    obtain rfl : b = [] := List.length_eq_zero_iff.1 (by omega)
    rfl
  | succ N ih =>
    intro a b h
    cases a with
    | nil => rw [dist_l, dist_r]
    | cons p a => cases b with
      | nil => rw [dist_l, dist_r]
      | cons q b =>
        simp only [List.length_cons] at h
        rw [dist_nn, dist_nn, ih a b (by omega), ih a (q :: b) (by simp; omega), ih (p :: a) b (by simp; omega)]
        by_cases hpq : p = q
        · rw [if_pos hpq, if_pos hpq.symm]
        · rw [if_neg hpq, if_neg (fun h => hpq h.symm), Nat.min_comm]
theorem dist_front (f a b : List Int) : dist (f ++ a) (f ++ b) = dist a b := by
  induction f with
  | nil => rfl
  | cons p f ih => rw [List.cons_append, List.cons_append, dist_nn, if_pos rfl, ih]
theorem scr_front (f a b : List Int) : scr (f ++ a) (f ++ b) = List.replicate f.length 1 ++ scr a b := by
  induction f with
  | nil => rfl
  | cons p f ih => rw [List.cons_append, List.cons_append, scr_nn, if_pos rfl, ih]; rfl
theorem dist_drops (f a b : List Int) : dist (f ++ a) b ≤ f.length + dist a b := by
  induction f with
  | nil => simp
  | cons p f ih => rw [List.cons_append]; have := (dist_drop (p := p) (a := f ++ a) (b := b)).1; simp only [List.length_cons]; omega
theorem dist_adds (f a b : List Int) : dist a (f ++ b) ≤ f.length + dist a b := by
  induction f with
  | nil => simp
  | cons p f ih => rw [List.cons_append]; have := (dist_add (q := p) (a := a) (b := f ++ b)).1; simp only [List.length_cons]; omega
end My
end Go.Proofs.YtfoalaoanpbmeaaDoor

namespace Go.Proofs.YtfoalaoanpbmeaaDoor
namespace My
/-- An edit, its text as runes. -/
structure Er where
  k : Nat
  d : Nat
  a : List Int
instance : Inhabited Er := ⟨⟨0, 0, []⟩⟩
/-- A script as edits: what is left of it, of the runes it ends at, the edit under way. -/
def eds : List Int → List Int → Er → List Er
  | [], _, c => [c]
  | z :: ms, to, c =>
    if z = 2 then eds ms to ⟨c.k, c.d + 1, c.a⟩
    else if z = 3 then eds ms to.tail ⟨c.k, c.d, c.a ++ [to.headD 0]⟩
    else if 0 < c.d ∨ c.a ≠ [] then c :: eds ms to.tail ⟨1, 0, []⟩
    else eds ms to.tail ⟨c.k + 1, c.d, c.a⟩
def edits (ms to : List Int) : List Er := if ms = [] then [] else eds ms to ⟨0, 0, []⟩
def applyR : List Int → List Er → Option (List Int)
  | x, [] => if x = [] then some [] else none
  | x, e :: l => if e.k + e.d ≤ x.length then (applyR (x.drop (e.k + e.d)) l).map fun r => x.take e.k ++ e.a ++ r else none
def costR : List Er → Nat
  | [] => 0
  | e :: l => e.d + e.a.length + costR l
theorem eds_two (ms to : List Int) (c : Er) : eds (2 :: ms) to c = eds ms to ⟨c.k, c.d + 1, c.a⟩ := by rw [eds]; simp
theorem eds_three (ms to : List Int) (c : Er) : eds (3 :: ms) to c = eds ms to.tail ⟨c.k, c.d, c.a ++ [to.headD 0]⟩ := by rw [eds]; simp
theorem eds_one (ms to : List Int) (c : Er) : eds (1 :: ms) to c = if 0 < c.d ∨ c.a ≠ [] then c :: eds ms to.tail ⟨1, 0, []⟩ else eds ms to.tail ⟨c.k + 1, c.d, c.a⟩ := by rw [eds]; simp
theorem eds_apply (N : Nat) : ∀ (x y K D A : List Int), x.length + y.length ≤ N → applyR (K ++ D ++ x) (eds (scr x y) y ⟨K.length, D.length, A⟩) = some (K ++ A ++ y) := by
  have base : ∀ K D A : List Int, applyR (K ++ D ++ []) (eds (scr [] []) [] ⟨K.length, D.length, A⟩) = some (K ++ A ++ []) := by
    intro K D A
    rw [scr_nil, eds, applyR, if_pos (by simp), applyR, if_pos (by simp)]
    simp
  have dropS : ∀ (p : Int) (x y K D A : List Int) (ms : List Int), (∀ K D A : List Int, applyR (K ++ D ++ x) (eds ms y ⟨K.length, D.length, A⟩) = some (K ++ A ++ y)) → applyR (K ++ D ++ p :: x) (eds (2 :: ms) y ⟨K.length, D.length, A⟩) = some (K ++ A ++ y) := by
    intro p x y K D A ms h
    have := h K (D ++ [p]) A
    rw [eds_two]
    simp only [List.length_append, List.length_cons, List.length_nil, List.append_assoc, List.cons_append, List.nil_append] at this ⊢
    exact this
  have addS : ∀ (q : Int) (x y K D A : List Int) (ms : List Int), (∀ K D A : List Int, applyR (K ++ D ++ x) (eds ms y ⟨K.length, D.length, A⟩) = some (K ++ A ++ y)) → applyR (K ++ D ++ x) (eds (3 :: ms) (q :: y) ⟨K.length, D.length, A⟩) = some (K ++ A ++ q :: y) := by
    intro q x y K D A ms h
    have := h K D (A ++ [q])
    rw [eds_three]
    simp only [List.tail_cons, List.headD_cons, List.append_assoc, List.cons_append, List.nil_append] at this ⊢
    exact this
  induction N with
  | zero =>
    intro x y K D A h
    obtain rfl : x = [] := List.length_eq_zero_iff.1 (by omega)
    obtain rfl : y = [] := List.length_eq_zero_iff.1 (by omega)
    exact base K D A
  | succ N ih =>
    intro x y K D A h
    cases x with
    | nil => cases y with
      | nil => exact base K D A
      | cons q y => rw [scr_l]; exact addS q [] y K D A _ fun K D A => ih [] y K D A (by simp only [List.length_cons, List.length_nil] at h ⊢; omega)
    | cons p x => cases y with
      | nil => rw [scr_r]; exact dropS p x [] K D A _ fun K D A => ih x [] K D A (by simp only [List.length_cons, List.length_nil] at h ⊢; omega)
      | cons q y =>
        simp only [List.length_cons] at h
        rw [scr_nn]
        by_cases hpq : p = q
        · subst hpq
          rw [if_pos rfl, eds_one]
          by_cases hc : 0 < D.length ∨ A ≠ []
          · rw [if_pos hc, applyR, if_pos (by simp)]
            have h1 : (K ++ D ++ p :: x).drop (K.length + D.length) = p :: x := by rw [← List.length_append, List.drop_left]
            have h2 : (K ++ D ++ p :: x).take K.length = K := by rw [List.append_assoc, List.take_left]
            have h3 := ih x y [p] [] [] (by omega)
            simp only [List.append_nil, List.length_cons, List.length_nil, List.cons_append, List.nil_append] at h3
            show (applyR (List.drop (K.length + D.length) _) (eds _ y ⟨1, 0, []⟩)).map _ = _
            rw [h1, h3, h2]; rfl
          · have hD : D = [] := List.length_eq_zero_iff.1 (by omega)
            have hA : A = [] := by
              rcases Classical.em (A = []) with h | h
              · exact h
              · exact absurd (.inr h) hc
            subst hD hA
            rw [if_neg hc]
            have h3 := ih x y (K ++ [p]) [] [] (by omega)
            simp only [List.append_nil, List.length_append, List.length_cons, List.length_nil, List.append_assoc, List.cons_append, List.nil_append] at h3 ⊢
            exact h3
        · rw [if_neg hpq]
          split
          · exact dropS p x (q :: y) K D A _ fun K D A => ih x (q :: y) K D A (by simp only [List.length_cons]; omega)
          · exact addS q (p :: x) y K D A _ fun K D A => ih (p :: x) y K D A (by simp only [List.length_cons]; omega)
theorem edits_apply (x y : List Int) : applyR x (edits (scr x y) y) = some y := by
  unfold edits
  split
  · rename_i h
    have hx : x = [] ∧ y = [] := by
      cases x with
      | nil => cases y with
        | nil => exact ⟨rfl, rfl⟩
        | cons q y => rw [scr_l] at h; cases h
      | cons p x => cases y with
        | nil => rw [scr_r] at h; cases h
        | cons q y => rw [scr_nn] at h; split at h; cases h; split at h <;> cases h
    obtain ⟨rfl, rfl⟩ := hx
    rfl
  · have := eds_apply _ x y [] [] [] (Nat.le_refl _)
    simpa using this
theorem eds_cost (N : Nat) : ∀ (x y : List Int) (c : Er), x.length + y.length ≤ N → costR (eds (scr x y) y c) = c.d + c.a.length + dist x y := by
  induction N with
  | zero =>
    intro x y c h
    obtain rfl : x = [] := List.length_eq_zero_iff.1 (by omega)
    obtain rfl : y = [] := List.length_eq_zero_iff.1 (by omega)
    rw [scr_nil, dist_l, eds]; simp [costR]
  | succ N ih =>
    intro x y c h
    cases x with
    | nil => cases y with
      | nil => rw [scr_nil, dist_l, eds]; simp [costR]
      | cons q y =>
        simp only [List.length_cons, List.length_nil] at h
        rw [scr_l, eds_three, List.tail_cons, ih [] y _ (by simp only [List.length_nil]; omega), dist_l, dist_l]; simp; omega
    | cons p x => cases y with
      | nil =>
        simp only [List.length_cons, List.length_nil] at h
        rw [scr_r, eds_two, ih x [] _ (by simp only [List.length_nil]; omega), dist_r, dist_r]; simp; omega
      | cons q y =>
        simp only [List.length_cons] at h
        rw [scr_nn, dist_nn]
        by_cases hpq : p = q
        · rw [if_pos hpq, if_pos hpq, eds_one, List.tail_cons]
          split
          · rw [costR, ih x y _ (by omega)]; simp
          · rw [ih x y _ (by omega)]
        · rw [if_neg hpq, if_neg hpq]
          split
          · rw [eds_two, ih x (q :: y) _ (by simp only [List.length_cons]; omega)]; simp only []; omega
          · rw [eds_three, List.tail_cons, ih (p :: x) y _ (by simp only [List.length_cons]; omega)]; simp only [List.length_append, List.length_cons, List.length_nil]; omega
theorem scr_empty {x y : List Int} (h : scr x y = []) : x = [] ∧ y = [] := by
  cases x with
  | nil => cases y with
    | nil => exact ⟨rfl, rfl⟩
    | cons q y => rw [scr_l] at h; cases h
  | cons p x => cases y with
    | nil => rw [scr_r] at h; cases h
    | cons q y => rw [scr_nn] at h; split at h; cases h; split at h <;> cases h
theorem edits_cost (x y : List Int) : costR (edits (scr x y) y) = dist x y := by
  unfold edits
  split
  · rename_i h
    obtain ⟨rfl, rfl⟩ := scr_empty h
    rw [dist_l]; rfl
  · rw [eds_cost _ x y _ (Nat.le_refl _)]; simp
/-- No edits cost less. -/
theorem apply_least : ∀ (l : List Er) (x y : List Int), applyR x l = some y → dist x y ≤ costR l := by
  intro l
  induction l with
  | nil =>
    intro x y h
    rw [applyR] at h
    split at h
    · rename_i hx; cases h; subst hx; simp [dist_l]
    · cases h
  | cons e l ih =>
    intro x y h
    rw [applyR] at h
    split at h
    · rename_i hle
      cases h1 : applyR (x.drop (e.k + e.d)) l with
      | none => rw [h1] at h; cases h
      | some r =>
        rw [h1] at h
        simp only [Option.map_some, Option.some.injEq] at h
        subst h
        have h2 := ih _ _ h1
        have hx : x = x.take e.k ++ ((x.drop e.k).take e.d ++ x.drop (e.k + e.d)) := by
          rw [← List.drop_drop, List.take_append_drop, List.take_append_drop]
        have h3 : dist x (x.take e.k ++ e.a ++ r) = dist ((x.drop e.k).take e.d ++ x.drop (e.k + e.d)) (e.a ++ r) := by
          conv => lhs; arg 1; rw [hx]
          rw [List.append_assoc, dist_front]
        rw [h3, costR]
        have h4 := dist_drops ((x.drop e.k).take e.d) (x.drop (e.k + e.d)) (e.a ++ r)
        have h5 := dist_adds e.a (x.drop (e.k + e.d)) r
        have h6 : ((x.drop e.k).take e.d).length ≤ e.d := List.length_take_le _ _
        omega
    · cases h
theorem scr_same (x : List Int) : scr x x = List.replicate x.length 1 := by
  have := scr_front x [] []
  simpa [scr_nil] using this
theorem eds_ones (N : Nat) : ∀ (ms to : List Int) (k : Nat), eds (List.replicate N 1 ++ ms) to ⟨k, 0, []⟩ = eds ms (to.drop N) ⟨k + N, 0, []⟩ := by
  induction N with
  | zero => intro ms to k; rfl
  | succ N ih =>
    intro ms to k
    rw [List.replicate_succ, List.cons_append, eds_one, if_neg (by simp), ih]
    have e : (to.tail).drop N = to.drop (N + 1) := by cases to <;> simp
    rw [e, show k + 1 + N = k + (N + 1) by omega]
theorem edits_same (x : List Int) : edits (scr x x) x = if x = [] then [] else [⟨x.length, 0, []⟩] := by
  unfold edits
  rw [scr_same]
  cases x with
  | nil => rfl
  | cons p x =>
    rw [if_neg (by simp), if_neg (by simp)]
    have := eds_ones (p :: x).length [] (p :: x) 0
    rw [List.append_nil] at this
    rw [this]; simp [eds]
theorem eds_head (ms : List Int) : ∀ (to : List Int) (c : Er), ∃ e l, eds ms to c = e :: l ∧ c.k ≤ e.k := by
  induction ms with
  | nil => intro to c; exact ⟨c, [], rfl, Nat.le_refl _⟩
  | cons z ms ih =>
    intro to c
    rw [eds]
    split
    · exact ih to _
    · split
      · exact ih _ _
      · split
        · exact ⟨c, _, rfl, Nat.le_refl _⟩
        · obtain ⟨e, l, h1, h2⟩ := ih to.tail ⟨c.k + 1, c.d, c.a⟩
          exact ⟨e, l, h1, by simp only at h2; omega⟩
theorem edits_front (f a b : List Int) (hf : f ≠ []) : ∃ e l, edits (scr (f ++ a) (f ++ b)) (f ++ b) = e :: l ∧ f.length ≤ e.k := by
  unfold edits
  rw [scr_front]
  have hl : 0 < f.length := List.length_pos_iff.2 hf
  rw [if_neg (fun h => by
    have h2 := congrArg List.length (List.append_eq_nil_iff.1 h).1
    rw [List.length_replicate, List.length_nil] at h2; omega), eds_ones]
  obtain ⟨e, l, h1, h2⟩ := eds_head (scr a b) ((f ++ b).drop f.length) ⟨0 + f.length, 0, []⟩
  exact ⟨e, l, h1, by simp only at h2; omega⟩
end My
end Go.Proofs.YtfoalaoanpbmeaaDoor
