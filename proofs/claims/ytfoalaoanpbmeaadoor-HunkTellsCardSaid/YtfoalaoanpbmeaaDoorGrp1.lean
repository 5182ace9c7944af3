/-
  Merged: MyEd, HkNumM.
-/
import Derived.Test.YtfoalaoanpbmeaaDoorMyNear
namespace Go.Proofs.YtfoalaoanpbmeaaDoor
namespace My
/-- An edit, its text as runes. -/
structure Er where
  k : Nat
  d : Nat
  a : List Int
instance : Inhabited Er := ⟨⟨0, 0, []⟩⟩
/-- A script as edits: what is left of it, of the runes it ends at, the edit under way. -/
def eds : List Int → List Int → Er → List Er
  | [], _, c => [c]
  | z :: ms, to, c =>
    if z = 2 then eds ms to ⟨c.k, c.d + 1, c.a⟩
    else if z = 3 then eds ms to.tail ⟨c.k, c.d, c.a ++ [to.headD 0]⟩
    else if 0 < c.d ∨ c.a ≠ [] then c :: eds ms to.tail ⟨1, 0, []⟩
    else eds ms to.tail ⟨c.k + 1, c.d, c.a⟩
def edits (ms to : List Int) : List Er := if ms = [] then [] else eds ms to ⟨0, 0, []⟩
def applyR : List Int → List Er → Option (List Int)
  | x, [] => if x = [] then some [] else none
  | x, e :: l => if e.k + e.d ≤ x.length then (applyR (x.drop (e.k + e.d)) l).map fun r => x.take e.k ++ e.a ++ r else none
def costR : List Er → Nat
  | [] => 0
  | e :: l => e.d + e.a.length + costR l
theorem eds_two (ms to : List Int) (c : Er) : eds (2 :: ms) to c = eds ms to ⟨c.k, c.d + 1, c.a⟩ := by rw [eds]; simp
theorem eds_three (ms to : List Int) (c : Er) : eds (3 :: ms) to c = eds ms to.tail ⟨c.k, c.d, c.a ++ [to.headD 0]⟩ := by rw [eds]; simp
theorem eds_one (ms to : List Int) (c : Er) : eds (1 :: ms) to c = if 0 < c.d ∨ c.a ≠ [] then c :: eds ms to.tail ⟨1, 0, []⟩ else eds ms to.tail ⟨c.k + 1, c.d, c.a⟩ := by rw [eds]; simp
theorem eds_apply (N : Nat) : ∀ (x y K D A : List Int), x.length + y.length ≤ N → applyR (K ++ D ++ x) (eds (scr x y) y ⟨K.length, D.length, A⟩) = some (K ++ A ++ y) := by
  have base : ∀ K D A : List Int, applyR (K ++ D ++ []) (eds (scr [] []) [] ⟨K.length, D.length, A⟩) = some (K ++ A ++ []) := by
    intro K D A
    rw [scr_nil, eds, applyR, if_pos (by simp), applyR, if_pos (by simp)]
    simp
  have dropS : ∀ (p : Int) (x y K D A : List Int) (ms : List Int), (∀ K D A : List Int, applyR (K ++ D ++ x) (eds ms y ⟨K.length, D.length, A⟩) = some (K ++ A ++ y)) → applyR (K ++ D ++ p :: x) (eds (2 :: ms) y ⟨K.length, D.length, A⟩) = some (K ++ A ++ y) := by
    intro p x y K D A ms h
    have := h K (D ++ [p]) A
    rw [eds_two]
    simp only [List.length_append, List.length_cons, List.length_nil, List.append_assoc, List.cons_append, List.nil_append] at this ⊢
    exact this
  have addS : ∀ (q : Int) (x y K D A : List Int) (ms : List Int), (∀ K D A : List Int, applyR (K ++ D ++ x) (eds ms y ⟨K.length, D.length, A⟩) = some (K ++ A ++ y)) → applyR (K ++ D ++ x) (eds (3 :: ms) (q :: y) ⟨K.length, D.length, A⟩) = some (K ++ A ++ q :: y) := by
    intro q x y K D A ms h
    have := h K D (A ++ [q])
    rw [eds_three]
    simp only [List.tail_cons, List.headD_cons, List.append_assoc, List.cons_append, List.nil_append] at this ⊢
    exact this
  induction N with
  | zero =>
    intro x y K D A h
    obtain rfl : x = [] := List.length_eq_zero_iff.1 (by omega)
    obtain rfl : y = [] := List.length_eq_zero_iff.1 (by omega)
    exact base K D A
  | succ N ih =>
    intro x y K D A h
    cases x with
    | nil => cases y with
      | nil => exact base K D A
      | cons q y => rw [scr_l]; exact addS q [] y K D A _ fun K D A => ih [] y K D A (by simp only [List.length_cons, List.length_nil] at h ⊢; omega)
    | cons p x => cases y with
      | nil => rw [scr_r]; exact dropS p x [] K D A _ fun K D A => ih x [] K D A (by simp only [List.length_cons, List.length_nil] at h ⊢; omega)
      | cons q y =>
        simp only [List.length_cons] at h
        rw [scr_nn]
        by_cases hpq : p = q
        · subst hpq
          rw [if_pos rfl, eds_one]
          by_cases hc : 0 < D.length ∨ A ≠ []
          · rw [if_pos hc, applyR, if_pos (by simp)]
            have h1 : (K ++ D ++ p :: x).drop (K.length + D.length) = p :: x := by rw [← List.length_append, List.drop_left]
            have h2 : (K ++ D ++ p :: x).take K.length = K := by rw [List.append_assoc, List.take_left]
            have h3 := ih x y [p] [] [] (by omega)
            simp only [List.append_nil, List.length_cons, List.length_nil, List.cons_append, List.nil_append] at h3
            show (applyR (List.drop (K.length + D.length) _) (eds _ y ⟨1, 0, []⟩)).map _ = _
            rw [h1, h3, h2]; rfl
          · have hD : D = [] := List.length_eq_zero_iff.1 (by omega)
            have hA : A = [] := by
              rcases Classical.em (A = []) with h | h
              · exact h
              · exact absurd (.inr h) hc
            subst hD hA
            rw [if_neg hc]
            have h3 := ih x y (K ++ [p]) [] [] (by omega)
            simp only [List.append_nil, List.length_append, List.length_cons, List.length_nil, List.append_assoc, List.cons_append, List.nil_append] at h3 ⊢
            exact h3
        · rw [if_neg hpq]
          split
          · exact dropS p x (q :: y) K D A _ fun K D A => ih x (q :: y) K D A (by simp only [List.length_cons]; omega)
          · exact addS q (p :: x) y K D A _ fun K D A => ih (p :: x) y K D A (by simp only [List.length_cons]; omega)
theorem edits_apply (x y : List Int) : applyR x (edits (scr x y) y) = some y := by
  unfold edits
  split
  · rename_i h
    have hx : x = [] ∧ y = [] := by
      cases x with
      | nil => cases y with
        | nil => exact ⟨rfl, rfl⟩
        | cons q y => rw [scr_l] at h; cases h
      | cons p x => cases y with
        | nil => rw [scr_r] at h; cases h
        | cons q y => rw [scr_nn] at h; split at h; cases h; split at h <;> cases h
    obtain ⟨rfl, rfl⟩ := hx
    rfl
  · have := eds_apply _ x y [] [] [] (Nat.le_refl _)
    simpa using this
theorem eds_cost (N : Nat) : ∀ (x y : List Int) (c : Er), x.length + y.length ≤ N → costR (eds (scr x y) y c) = c.d + c.a.length + dist x y := by
  induction N with
  | zero =>
    intro x y c h
    obtain rfl : x = [] := List.length_eq_zero_iff.1 (by omega)
    obtain rfl : y = [] := List.length_eq_zero_iff.1 (by omega)
    rw [scr_nil, dist_l, eds]; simp [costR]
  | succ N ih =>
    intro x y c h
    cases x with
    | nil => cases y with
      | nil => rw [scr_nil, dist_l, eds]; simp [costR]
      | cons q y =>
        simp only [List.length_cons, List.length_nil] at h
        rw [scr_l, eds_three, List.tail_cons, ih [] y _ (by simp only [List.length_nil]; omega), dist_l, dist_l]; simp; omega
    | cons p x => cases y with
      | nil =>
        simp only [List.length_cons, List.length_nil] at h
        rw [scr_r, eds_two, ih x [] _ (by simp only [List.length_nil]; omega), dist_r, dist_r]; simp; omega
      | cons q y =>
        simp only [List.length_cons] at h
        rw [scr_nn, dist_nn]
        by_cases hpq : p = q
        · rw [if_pos hpq, if_pos hpq, eds_one, List.tail_cons]
          split
          · rw [costR, ih x y _ (by omega)]; simp
          · rw [ih x y _ (by omega)]
        · rw [if_neg hpq, if_neg hpq]
          split
          · rw [eds_two, ih x (q :: y) _ (by simp only [List.length_cons]; omega)]; simp only []; omega
          · rw [eds_three, List.tail_cons, ih (p :: x) y _ (by simp only [List.length_cons]; omega)]; simp only [List.length_append, List.length_cons, List.length_nil]; omega
theorem scr_empty {x y : List Int} (h : scr x y = []) : x = [] ∧ y = [] := by
  cases x with
  | nil => cases y with
    | nil => exact ⟨rfl, rfl⟩
    | cons q y => rw [scr_l] at h; cases h
  | cons p x => cases y with
    | nil => rw [scr_r] at h; cases h
    | cons q y => rw [scr_nn] at h; split at h; cases h; split at h <;> cases h
theorem edits_cost (x y : List Int) : costR (edits (scr x y) y) = dist x y := by
  unfold edits
  split
  · rename_i h
    obtain ⟨rfl, rfl⟩ := scr_empty h
    rw [dist_l]; rfl
  · rw [eds_cost _ x y _ (Nat.le_refl _)]; simp
/-- No edits cost less. -/
theorem apply_least : ∀ (l : List Er) (x y : List Int), applyR x l = some y → dist x y ≤ costR l := by
  intro l
  induction l with
  | nil =>
    intro x y h
    rw [applyR] at h
    split at h
    · rename_i hx; cases h; subst hx; simp [dist_l]
    · cases h
  | cons e l ih =>
    intro x y h
    rw [applyR] at h
    split at h
    · rename_i hle
      cases h1 : applyR (x.drop (e.k + e.d)) l with
      | none => rw [h1] at h; cases h
      | some r =>
        rw [h1] at h
        simp only [Option.map_some, Option.some.injEq] at h
        subst h
        have h2 := ih _ _ h1
        have hx : x = x.take e.k ++ ((x.drop e.k).take e.d ++ x.drop (e.k + e.d)) := by
          rw [← List.drop_drop, List.take_append_drop, List.take_append_drop]
        have h3 : dist x (x.take e.k ++ e.a ++ r) = dist ((x.drop e.k).take e.d ++ x.drop (e.k + e.d)) (e.a ++ r) := by
          conv => lhs; arg 1; rw [hx]
          rw [List.append_assoc, dist_front]
        rw [h3, costR]
        have h4 := dist_drops ((x.drop e.k).take e.d) (x.drop (e.k + e.d)) (e.a ++ r)
        have h5 := dist_adds e.a (x.drop (e.k + e.d)) r
        have h6 : ((x.drop e.k).take e.d).length ≤ e.d := List.length_take_le _ _
        omega
    · cases h
theorem scr_same (x : List Int) : scr x x = List.replicate x.length 1 := by
  have := scr_front x [] []
  simpa [scr_nil] using this
theorem eds_ones (N : Nat) : ∀ (ms to : List Int) (k : Nat), eds (List.replicate N 1 ++ ms) to ⟨k, 0, []⟩ = eds ms (to.drop N) ⟨k + N, 0, []⟩ := by
  induction N with
  | zero => intro ms to k; rfl
  | succ N ih =>
    intro ms to k
    rw [List.replicate_succ, List.cons_append, eds_one, if_neg (by simp), ih]
    have e : (to.tail).drop N = to.drop (N + 1) := by cases to <;> simp
    rw [e, show k + 1 + N = k + (N + 1) by omega]
theorem edits_same (x : List Int) : edits (scr x x) x = if x = [] then [] else [⟨x.length, 0, []⟩] := by
  unfold edits
  rw [scr_same]
  cases x with
  | nil => rfl
  | cons p x =>
    rw [if_neg (by simp), if_neg (by simp)]
    have := eds_ones (p :: x).length [] (p :: x) 0
    rw [List.append_nil] at this
    rw [this]; simp [eds]
theorem eds_head (ms : List Int) : ∀ (to : List Int) (c : Er), ∃ e l, eds ms to c = e :: l ∧ c.k ≤ e.k := by
  induction ms with
  | nil => intro to c; exact ⟨c, [], rfl, Nat.le_refl _⟩
  | cons z ms ih =>
    intro to c
    rw [eds]
    split
    · exact ih to _
    · split
      · exact ih _ _
      · split
        · exact ⟨c, _, rfl, Nat.le_refl _⟩
        · obtain ⟨e, l, h1, h2⟩ := ih to.tail ⟨c.k + 1, c.d, c.a⟩
          exact ⟨e, l, h1, by simp only at h2; omega⟩
theorem edits_front (f a b : List Int) (hf : f ≠ []) : ∃ e l, edits (scr (f ++ a) (f ++ b)) (f ++ b) = e :: l ∧ f.length ≤ e.k := by
  unfold edits
  rw [scr_front]
  have hl : 0 < f.length := List.length_pos_iff.2 hf
  rw [if_neg (fun h => by
    have h2 := congrArg List.length (List.append_eq_nil_iff.1 h).1
    rw [List.length_replicate, List.length_nil] at h2; omega), eds_ones]
  obtain ⟨e, l, h1, h2⟩ := eds_head (scr a b) ((f ++ b).drop f.length) ⟨0 + f.length, 0, []⟩
  exact ⟨e, l, h1, by simp only at h2; omega⟩
end My
end Go.Proofs.YtfoalaoanpbmeaaDoor

namespace Go.Proofs.YtfoalaoanpbmeaaDoor
open Go.Lib My

abbrev Ln := List UInt8
/-- The lines seen so far, each once; one more. -/
def seeF (h : List Ln) (x : Ln) : List Ln := if x ∈ h then h else h ++ [x]
def numsF : List Ln → List Ln → List Int × List Ln
  | h, [] => ([], h)
  | h, x :: r => (((seeF h x).idxOf x : Nat) :: (numsF (seeF h x) r).1, (numsF (seeF h x) r).2)
theorem see_mem (h : List Ln) (x : Ln) : x ∈ seeF h x := by
  unfold seeF
  by_cases hx : x ∈ h
  · rw [if_pos hx]; exact hx
  · rw [if_neg hx]; simp
theorem see_sub (h : List Ln) (x : Ln) : h <+: seeF h x := by
  unfold seeF
  by_cases hx : x ∈ h
  · rw [if_pos hx]; exact List.prefix_refl _
  · rw [if_neg hx]; exact List.prefix_append _ _
theorem idx_grow {h h' : List Ln} (hp : h <+: h') {x : Ln} (hx : x ∈ h) : h'.idxOf x = h.idxOf x := by
  obtain ⟨t, rfl⟩ := hp
  rw [List.idxOf_append, if_pos hx]
theorem nums_sub : ∀ (l h : List Ln), h <+: (numsF h l).2
  | [], _ => List.prefix_refl _
  | x :: r, h => (see_sub h x).trans (nums_sub r (seeF h x))
theorem nums_len : ∀ (l h : List Ln), (numsF h l).1.length = l.length
  | [], _ => rfl
  | x :: r, h => by
    show (numsF (seeF h x) r).1.length + 1 = _
    rw [nums_len r, List.length_cons]
/-- Told by the last list of all. -/
theorem nums_at : ∀ (l h : List Ln) (H : List Ln), (numsF h l).2 <+: H → (∀ x ∈ l, x ∈ H) ∧ (numsF h l).1 = l.map fun x => ((H.idxOf x : Nat) : Int)
  | [], _, _, _ => ⟨(fun x hx => by cases hx), rfl⟩
  | x :: r, h, H, hp => by
    obtain ⟨h1, h2⟩ := nums_at r (seeF h x) H hp
    have h3 : seeF h x <+: H := (nums_sub r (seeF h x)).trans hp
    refine ⟨fun y hy => ?_, ?_⟩
    · rcases List.mem_cons.1 hy with rfl | hy
      · exact h3.subset (see_mem h y)
      · exact h1 y hy
    · show ((seeF h x).idxOf x : Int) :: (numsF (seeF h x) r).1 = _
      rw [h2, List.map_cons, idx_grow h3 (see_mem h x)]
theorem idx_inj {H : List Ln} {x y : Ln} (hx : x ∈ H) (h : H.idxOf x = H.idxOf y) : x = y := by
  have h1 : H.idxOf x < H.length := List.idxOf_lt_length_of_mem hx
  have h2 : H[H.idxOf x] = x := List.getElem_idxOf h1
  have h3 : H.idxOf y < H.length := h ▸ h1
  have h4 : H[H.idxOf y] = y := List.getElem_idxOf h3
  rw [← h2, ← h4]
  congr 1
/-- Both rows' numbers by one list. -/
theorem nums_two (a b : List Ln) : ∃ H : List Ln, (∀ x ∈ a, x ∈ H) ∧ (∀ x ∈ b, x ∈ H) ∧ (numsF [] a).1 = (a.map fun x => ((H.idxOf x : Nat) : Int)) ∧ (numsF (numsF [] a).2 b).1 = b.map fun x => ((H.idxOf x : Nat) : Int) := by
  obtain ⟨h1, h2⟩ := nums_at b (numsF [] a).2 (numsF (numsF [] a).2 b).2 (List.prefix_refl _)
  obtain ⟨h3, h4⟩ := nums_at a [] (numsF (numsF [] a).2 b).2 (nums_sub b _)
  exact ⟨_, h3, h1, h4, h2⟩

/-- A script fits: it makes the one of the other. -/
inductive Fit : List Int → List Ln → List Ln → Prop
  | done : Fit [] [] []
  | keep {ms x a b} : Fit ms a b → Fit (1 :: ms) (x :: a) (x :: b)
  | drop {ms x a b} : Fit ms a b → Fit (2 :: ms) (x :: a) b
  | add {ms y a b} : Fit ms a b → Fit (3 :: ms) a (y :: b)
theorem fit_of (N : Nat) : ∀ (a b : List Ln) (f : Ln → Int), a.length + b.length ≤ N → (∀ x ∈ a, ∀ y ∈ b, f x = f y → x = y) → Fit (scr (a.map f) (b.map f)) a b := by
  induction N with
  | zero =>
    intro a b f hl _
    have h1 : a = [] := List.length_eq_zero_iff.1 (by omega)
    have h2 : b = [] := List.length_eq_zero_iff.1 (by omega)
    subst h1 h2
    rw [List.map_nil, scr_nil]
    exact .done
  | succ N ih =>
    intro a b f hl hf
    cases a with
    | nil =>
      cases b with
      | nil => rw [List.map_nil, scr_nil]; exact .done
      | cons y b =>
        rw [List.map_nil, List.map_cons, scr_l]
        exact .add (ih [] b f (by simp at hl ⊢; omega) (fun x hx => by cases hx))
    | cons x a =>
      cases b with
      | nil =>
        rw [List.map_nil, List.map_cons, scr_r]
        exact .drop (ih a [] f (by simp at hl ⊢; omega) (fun x _ y hy => by cases hy))
      | cons y b =>
        rw [List.map_cons, List.map_cons, scr_nn]
        by_cases h : f x = f y
        · rw [if_pos h]
          obtain rfl := hf x (by simp) y (by simp) h
          exact .keep (ih a b f (by simp at hl ⊢; omega) (fun u hu v hv => hf u (List.mem_cons_of_mem _ hu) v (List.mem_cons_of_mem _ hv)))
        · rw [if_neg h]
          split
          · exact .drop (ih a (y :: b) f (by simp at hl ⊢; omega) (fun u hu v hv => hf u (List.mem_cons_of_mem _ hu) v hv))
          · exact .add (ih (x :: a) b f (by simp at hl ⊢; omega) (fun u hu v hv => hf u hu v (List.mem_cons_of_mem _ hv)))
/-- The script between two rows of lines. -/
def scrL (a b : List Ln) : List Int := scr (numsF [] a).1 (numsF (numsF [] a).2 b).1
theorem fit_scr (a b : List Ln) : Fit (scrL a b) a b := by
  obtain ⟨H, h1, h2, h3, h4⟩ := nums_two a b
  unfold scrL
  rw [h3, h4]
  exact fit_of _ a b _ (Nat.le_refl _) (fun x hx y _ h => idx_inj (h1 x hx) (by omega))
theorem fit_moves {ms : List Int} {a b : List Ln} (h : Fit ms a b) : ∀ m ∈ ms, m = 1 ∨ m = 2 ∨ m = 3 := by
  induction h with
  | done => intro m hm; cases hm
  | keep _ ih => intro m hm; rcases List.mem_cons.1 hm with rfl | hm; exact .inl rfl; exact ih m hm
  | drop _ ih => intro m hm; rcases List.mem_cons.1 hm with rfl | hm; exact .inr (.inl rfl); exact ih m hm
  | add _ ih => intro m hm; rcases List.mem_cons.1 hm with rfl | hm; exact .inr (.inr rfl); exact ih m hm
theorem fit_len {ms : List Int} {a b : List Ln} (h : Fit ms a b) : ms.length ≤ a.length + b.length := by
  induction h with
  | done => simp
  | keep _ ih => simp; omega
  | drop _ ih => simp; omega
  | add _ ih => simp; omega
/-- Like rows of numbers have the same script. -/
theorem cst_congr {E F : Nat → Nat → Bool} (N : Nat) : ∀ x y, x + y ≤ N → (∀ i j, i < x → j < y → E i j = F i j) → cst E x y = cst F x y := by
  induction N with
  | zero =>
    intro x y h _
    obtain ⟨rfl, rfl⟩ : x = 0 ∧ y = 0 := by omega
    rw [cst_l, cst_l]
  | succ N ih =>
    intro x y h hE
    cases x with
    | zero => rw [cst_l, cst_l]
    | succ x =>
      cases y with
      | zero => rw [cst_r, cst_r]
      | succ y =>
        rw [cst_s, cst_s, hE x y (by omega) (by omega), ih x y (by omega) (fun i j hi hj => hE i j (by omega) (by omega)), ih x (y + 1) (by omega) (fun i j hi hj => hE i j (by omega) (by omega)), ih (x + 1) y (by omega) (fun i j hi hj => hE i j (by omega) (by omega))]
theorem mv_congr {E F : Nat → Nat → Bool} (N : Nat) : ∀ x y, x + y ≤ N → (∀ i j, i < x → j < y → E i j = F i j) → mv E x y = mv F x y := by
  induction N with
  | zero =>
    intro x y h _
    obtain ⟨rfl, rfl⟩ : x = 0 ∧ y = 0 := by omega
    rw [mv_nil, mv_nil]
  | succ N ih =>
    intro x y h hE
    cases x with
    | zero =>
      cases y with
      | zero => rw [mv_nil, mv_nil]
      | succ y => rw [mv_l, mv_l, ih 0 y (by omega) (fun i j hi hj => hE i j (by omega) (by omega))]
    | succ x =>
      cases y with
      | zero => rw [mv_r, mv_r, ih x 0 (by omega) (fun i j hi hj => hE i j (by omega) (by omega))]
      | succ y =>
        have e := hE x y (by omega) (by omega)
        have c1 := cst_congr (E := E) (F := F) _ x (y + 1) (Nat.le_refl _) (fun i j hi hj => hE i j (by omega) (by omega))
        have c2 := cst_congr (E := E) (F := F) _ (x + 1) y (Nat.le_refl _) (fun i j hi hj => hE i j (by omega) (by omega))
        by_cases h1 : E x y = true
        · rw [mv_yes h1, mv_yes (e ▸ h1), ih x y (by omega) (fun i j hi hj => hE i j (by omega) (by omega))]
        · by_cases h2 : cst E x (y + 1) ≤ cst E (x + 1) y
          · rw [mv_drop h1 h2, mv_drop (e ▸ h1) (by rw [← c1, ← c2]; exact h2), ih x (y + 1) (by omega) (fun i j hi hj => hE i j (by omega) (by omega))]
          · rw [mv_add h1 h2, mv_add (e ▸ h1) (by rw [← c1, ← c2]; exact h2), ih (x + 1) y (by omega) (fun i j hi hj => hE i j (by omega) (by omega))]
#print axioms mv_congr
end Go.Proofs.YtfoalaoanpbmeaaDoor
