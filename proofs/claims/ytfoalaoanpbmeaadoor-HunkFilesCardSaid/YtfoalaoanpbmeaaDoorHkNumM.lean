/-
  Plainly: lines told by numbers, like ones by like numbers; the script between lines.
-/
import Derived.Test.YtfoalaoanpbmeaaDoorGrp2
namespace Go.Proofs.YtfoalaoanpbmeaaDoor
open Go.Lib My

abbrev Ln := List UInt8
/-- The lines seen so far, each once; one more. -/
def seeF (h : List Ln) (x : Ln) : List Ln := if x ∈ h then h else h ++ [x]
def numsF : List Ln → List Ln → List Int × List Ln
  | h, [] => ([], h)
  | h, x :: r => (((seeF h x).idxOf x : Nat) :: (numsF (seeF h x) r).1, (numsF (seeF h x) r).2)
theorem see_mem (h : List Ln) (x : Ln) : x ∈ seeF h x := by
  unfold seeF
  by_cases hx : x ∈ h
  · rw [if_pos hx]; exact hx
  · rw [if_neg hx]; simp
theorem see_sub (h : List Ln) (x : Ln) : h <+: seeF h x := by
  unfold seeF
  by_cases hx : x ∈ h
  · rw [if_pos hx]; exact List.prefix_refl _
  · rw [if_neg hx]; exact List.prefix_append _ _
theorem idx_grow {h h' : List Ln} (hp : h <+: h') {x : Ln} (hx : x ∈ h) : h'.idxOf x = h.idxOf x := by
  obtain ⟨t, rfl⟩ := hp
  rw [List.idxOf_append, if_pos hx]
theorem nums_sub : ∀ (l h : List Ln), h <+: (numsF h l).2
  | [], _ => List.prefix_refl _
  | x :: r, h => (see_sub h x).trans (nums_sub r (seeF h x))
theorem nums_len : ∀ (l h : List Ln), (numsF h l).1.length = l.length
  | [], _ => rfl
  | x :: r, h => by
    show (numsF (seeF h x) r).1.length + 1 = _
    rw [nums_len r, List.length_cons]
/-- Told by the last list of all. -/
theorem nums_at : ∀ (l h : List Ln) (H : List Ln), (numsF h l).2 <+: H → (∀ x ∈ l, x ∈ H) ∧ (numsF h l).1 = l.map fun x => ((H.idxOf x : Nat) : Int)
  | [], _, _, _ => ⟨(fun x hx => by cases hx), rfl⟩
  | x :: r, h, H, hp => by
    obtain ⟨h1, h2⟩ := nums_at r (seeF h x) H hp
    have h3 : seeF h x <+: H := (nums_sub r (seeF h x)).trans hp
    refine ⟨fun y hy => ?_, ?_⟩
    · rcases List.mem_cons.1 hy with rfl | hy
      · exact h3.subset (see_mem h y)
      · exact h1 y hy
    · show ((seeF h x).idxOf x : Int) :: (numsF (seeF h x) r).1 = _
      rw [h2, List.map_cons, idx_grow h3 (see_mem h x)]
theorem idx_inj {H : List Ln} {x y : Ln} (hx : x ∈ H) (h : H.idxOf x = H.idxOf y) : x = y := by
  have h1 : H.idxOf x < H.length := List.idxOf_lt_length_of_mem hx
  have h2 : H[H.idxOf x] = x := List.getElem_idxOf h1
  have h3 : H.idxOf y < H.length := h ▸ h1
  have h4 : H[H.idxOf y] = y := List.getElem_idxOf h3
  rw [← h2, ← h4]
  congr 1
/-- Both rows' numbers by one list. -/
theorem nums_two (a b : List Ln) : ∃ H : List Ln, (∀ x ∈ a, x ∈ H) ∧ (∀ x ∈ b, x ∈ H) ∧ (numsF [] a).1 = (a.map fun x => ((H.idxOf x : Nat) : Int)) ∧ (numsF (numsF [] a).2 b).1 = b.map fun x => ((H.idxOf x : Nat) : Int) := by
  obtain ⟨h1, h2⟩ := nums_at b (numsF [] a).2 (numsF (numsF [] a).2 b).2 (List.prefix_refl _)
  obtain ⟨h3, h4⟩ := nums_at a [] (numsF (numsF [] a).2 b).2 (nums_sub b _)
  exact ⟨_, h3, h1, h4, h2⟩

/-- A script fits: it makes the one of the other. -/
inductive Fit : List Int → List Ln → List Ln → Prop
  | done : Fit [] [] []
  | keep {ms x a b} : Fit ms a b → Fit (1 :: ms) (x :: a) (x :: b)
  | drop {ms x a b} : Fit ms a b → Fit (2 :: ms) (x :: a) b
  | add {ms y a b} : Fit ms a b → Fit (3 :: ms) a (y :: b)
theorem fit_of (N : Nat) : ∀ (a b : List Ln) (f : Ln → Int), a.length + b.length ≤ N → (∀ x ∈ a, ∀ y ∈ b, f x = f y → x = y) → Fit (scr (a.map f) (b.map f)) a b := by
  induction N with
  | zero =>
    intro a b f hl _
    have h1 : a = [] := List.length_eq_zero_iff.1 (by omega)
    have h2 : b = [] := List.length_eq_zero_iff.1 (by omega)
    subst h1 h2
    rw [List.map_nil, scr_nil]
    exact .done
  | succ N ih =>
    intro a b f hl hf
    cases a with
    | nil =>
      cases b with
      | nil => rw [List.map_nil, scr_nil]; exact .done
      | cons y b =>
        rw [List.map_nil, List.map_cons, scr_l]
        exact .add (ih [] b f (by simp at hl ⊢; omega) (fun x hx => by cases hx))
    | cons x a =>
      cases b with
      | nil =>
        rw [List.map_nil, List.map_cons, scr_r]
        exact .drop (ih a [] f (by simp at hl ⊢; omega) (fun x _ y hy => by cases hy))
      | cons y b =>
        rw [List.map_cons, List.map_cons, scr_nn]
        by_cases h : f x = f y
        · rw [if_pos h]
          obtain rfl := hf x (by simp) y (by simp) h
          exact .keep (ih a b f (by simp at hl ⊢; omega) (fun u hu v hv => hf u (List.mem_cons_of_mem _ hu) v (List.mem_cons_of_mem _ hv)))
        · rw [if_neg h]
          split
          · exact .drop (ih a (y :: b) f (by simp at hl ⊢; omega) (fun u hu v hv => hf u (List.mem_cons_of_mem _ hu) v hv))
          · exact .add (ih (x :: a) b f (by simp at hl ⊢; omega) (fun u hu v hv => hf u hu v (List.mem_cons_of_mem _ hv)))
/-- The script between two rows of lines. -/
def scrL (a b : List Ln) : List Int := scr (numsF [] a).1 (numsF (numsF [] a).2 b).1
theorem fit_scr (a b : List Ln) : Fit (scrL a b) a b := by
  obtain ⟨H, h1, h2, h3, h4⟩ := nums_two a b
  unfold scrL
  rw [h3, h4]
  exact fit_of _ a b _ (Nat.le_refl _) (fun x hx y _ h => idx_inj (h1 x hx) (by omega))
theorem fit_moves {ms : List Int} {a b : List Ln} (h : Fit ms a b) : ∀ m ∈ ms, m = 1 ∨ m = 2 ∨ m = 3 := by
  induction h with
  | done => intro m hm; cases hm
  | keep _ ih => intro m hm; rcases List.mem_cons.1 hm with rfl | hm; exact .inl rfl; exact ih m hm
  | drop _ ih => intro m hm; rcases List.mem_cons.1 hm with rfl | hm; exact .inr (.inl rfl); exact ih m hm
  | add _ ih => intro m hm; rcases List.mem_cons.1 hm with rfl | hm; exact .inr (.inr rfl); exact ih m hm
theorem fit_len {ms : List Int} {a b : List Ln} (h : Fit ms a b) : ms.length ≤ a.length + b.length := by
  induction h with
  | done => simp
  | keep _ ih => simp; omega
  | drop _ ih => simp; omega
  | add _ ih => simp; omega
/-- Like rows of numbers have the same script. -/
theorem cst_congr {E F : Nat → Nat → Bool} (N : Nat) : ∀ x y, x + y ≤ N → (∀ i j, i < x → j < y → E i j = F i j) → cst E x y = cst F x y := by
  induction N with
  | zero =>
    intro x y h _
    obtain ⟨rfl, rfl⟩ : x = 0 ∧ y = 0 := by omega
    rw [cst_l, cst_l]
  | succ N ih =>
    intro x y h hE
    cases x with
    | zero => rw [cst_l, cst_l]
    | succ x =>
      cases y with
      | zero => rw [cst_r, cst_r]
      | succ y =>
        rw [cst_s, cst_s, hE x y (by omega) (by omega), ih x y (by omega) (fun i j hi hj => hE i j (by omega) (by omega)), ih x (y + 1) (by omega) (fun i j hi hj => hE i j (by omega) (by omega)), ih (x + 1) y (by omega) (fun i j hi hj => hE i j (by omega) (by omega))]
theorem mv_congr {E F : Nat → Nat → Bool} (N : Nat) : ∀ x y, x + y ≤ N → (∀ i j, i < x → j < y → E i j = F i j) → mv E x y = mv F x y := by
  induction N with
  | zero =>
    intro x y h _
    obtain ⟨rfl, rfl⟩ : x = 0 ∧ y = 0 := by omega
    rw [mv_nil, mv_nil]
  | succ N ih =>
    intro x y h hE
    cases x with
    | zero =>
      cases y with
      | zero => rw [mv_nil, mv_nil]
      | succ y => rw [mv_l, mv_l, ih 0 y (by omega) (fun i j hi hj => hE i j (by omega) (by omega))]
    | succ x =>
      cases y with
      | zero => rw [mv_r, mv_r, ih x 0 (by omega) (fun i j hi hj => hE i j (by omega) (by omega))]
      | succ y =>
        have e := hE x y (by omega) (by omega)
        have c1 := cst_congr (E := E) (F := F) _ x (y + 1) (Nat.le_refl _) (fun i j hi hj => hE i j (by omega) (by omega))
        have c2 := cst_congr (E := E) (F := F) _ (x + 1) y (Nat.le_refl _) (fun i j hi hj => hE i j (by omega) (by omega))
        by_cases h1 : E x y = true
        · rw [mv_yes h1, mv_yes (e ▸ h1), ih x y (by omega) (fun i j hi hj => hE i j (by omega) (by omega))]
        · by_cases h2 : cst E x (y + 1) ≤ cst E (x + 1) y
          · rw [mv_drop h1 h2, mv_drop (e ▸ h1) (by rw [← c1, ← c2]; exact h2), ih x (y + 1) (by omega) (fun i j hi hj => hE i j (by omega) (by omega))]
          · rw [mv_add h1 h2, mv_add (e ▸ h1) (by rw [← c1, ← c2]; exact h2), ih (x + 1) y (by omega) (fun i j hi hj => hE i j (by omega) (by omega))]
#print axioms mv_congr
end Go.Proofs.YtfoalaoanpbmeaaDoor
