/-
  Plainly: a target is made again of its delta; how long a delta is; upon a base of another length it is none.
-/
import Derived.Test.YtheigemfbcgjcaaDlMakeM
import Derived.Test.YtheigemfbcgjcaaDlApply
import Derived.Test.YtheigemfbcgjcaaBackMath
namespace Go.Proofs.Ytheigemfbcgjcaa
open Go.RowKit

theorem row_take {b w : List UInt8} {p l : Nat} (h : RowIs b w p l) : (b.drop p).take l = w.take l ∧ (l ≠ 0 → p + l ≤ b.length) := by
  rcases h with ⟨_, hL⟩ | ⟨rfl, rfl, _⟩
  · obtain ⟨h1, h2, h3⟩ := (le_lcp_iff l (b.drop p) w).1 (Nat.le_of_eq hL.2.1.symm)
    rw [List.length_drop] at h1
    exact ⟨h3, fun _ => by have := hL.1; omega⟩
  · exact ⟨by simp, fun h => absurd rfl h⟩
theorem piece_add {base : List UInt8} (A R S : List UInt8) (n : Nat) (hn : n = 2 * R.length) (hl : n < 9223372036854775808) :
    pieceF base (A ++ (numF n ++ (R ++ S))) A.length = (R, A.length + (numF n).length + R.length) := by
  have h1 := getI_back A (R ++ S) n hl
  rw [piece_even h1 (by omega)]
  have e : n / 2 = R.length := by omega
  rw [e]
  congr 1
  unfold cutF
  rw [if_neg (by simp; omega), ← List.append_assoc A, show A.length + (numF n).length = (A ++ numF n).length from by simp, List.drop_left, List.take_left]
theorem piece_copy {b : List UInt8} (A S : List UInt8) (p l : Nat) (hp : p + l ≤ b.length) (hl : 2 * l + 1 < 9223372036854775808) (hpp : p < 9223372036854775808) :
    pieceF b (A ++ (numF (2 * l + 1) ++ (numF p ++ S))) A.length = ((b.drop p).take l, A.length + (numF (2 * l + 1)).length + (numF p).length) := by
  have h1 := getI_back A (numF p ++ S) (2 * l + 1) hl
  have h2 := getI_back (A ++ numF (2 * l + 1)) S p hpp
  rw [List.append_assoc, List.length_append] at h2
  rw [piece_odd h1 (by omega) h2, show (2 * l + 1) / 2 = l by omega]
  congr 1
  unfold cutF
  rw [if_neg (by omega)]
theorem run_on {b d : List UInt8} {size g at_ z : Nat} {out R : List UInt8} (hl : at_ < d.length) (hp : pieceF b d at_ = (R, z)) (hR : R ≠ []) (hs : out.length + R.length ≤ size) : runF b d size (g + 1) at_ out = runF b d size g z (out ++ R) := by
  show (if at_ < d.length then _ else _) = _
  rw [if_pos hl, hp, if_neg (by rintro (h | h); exact hR h; simp only at h; omega)]
theorem add_len (t : List UInt8) (x y : Nat) (hy : y ≤ t.length) : (addF t x y).length = if x < y then (numF (2 * (y - x))).length + (y - x) else 0 := by
  unfold addF
  by_cases h : x < y
  · rw [if_pos h, if_pos h]; simp only [List.length_append, List.length_drop, List.length_take]; omega
  · rw [if_neg h, if_neg h]; rfl
theorem run_add (b t A S : List UInt8) (ht : t.length ≤ 400000) (x y g : Nat) (hxy : x ≤ y) (hy : y ≤ t.length) (hg : (addF t x y).length + 1 ≤ g) :
    ∃ g', g ≤ g' + (addF t x y).length ∧ 1 ≤ g' ∧ runF b (A ++ (addF t x y ++ S)) t.length g A.length (t.take x) = runF b ((A ++ addF t x y) ++ S) t.length g' (A ++ addF t x y).length (t.take y) := by
  by_cases h : x < y
  · have hRl : ((t.take y).drop x).length = y - x := by simp only [List.length_drop, List.length_take]; omega
    have hal := add_len t x y hy
    rw [if_pos h] at hal
    have e : addF t x y = numF (2 * (y - x)) ++ (t.take y).drop x := by unfold addF; rw [if_pos h]
    obtain ⟨g1, rfl⟩ : ∃ g1, g = g1 + 1 := ⟨g - 1, by omega⟩
    refine ⟨g1, by omega, by omega, ?_⟩
    rw [e, List.append_assoc, List.append_assoc]
    have hp := piece_add (base := b) A ((t.take y).drop x) S (2 * (y - x)) (by rw [hRl]) (by omega)
    rw [run_on (z := A.length + (numF (2 * (y - x))).length + ((t.take y).drop x).length) (R := (t.take y).drop x) (by simp; have := numF_length_pos (2 * (y - x)); omega) hp (by intro h0; rw [h0] at hRl; simp at hRl; omega) (by rw [hRl, List.length_take]; omega)]
    have et : t.take x ++ (t.take y).drop x = t.take y := by
      have : t.take x = (t.take y).take x := by rw [List.take_take]; congr 1; omega
      rw [this, List.take_append_drop]
    rw [et]
    congr 1
    · simp [List.append_assoc]
    · simp only [List.length_append]; omega
  · have hxe : x = y := by omega
    subst hxe
    have e : addF t x x = [] := by unfold addF; rw [if_neg h]
    rw [e]
    rw [e] at hg
    refine ⟨g, by omega, by simp at hg; omega, ?_⟩
    simp
theorem run_go (b t : List UInt8) (hb : b.length ≤ 400000) (ht : t.length ≤ 400000) : ∀ (f at_ x g : Nat) (A : List UInt8), x ≤ at_ → at_ ≤ t.length → t.length + 1 ≤ f + at_ → (goF b t f at_ x).length + 1 ≤ g → runF b (A ++ goF b t f at_ x) t.length g A.length (t.take x) = some t
  | 0, at_, x, g, A, h1, h2, h3, h4 => by omega
  | f + 1, at_, x, g, A, h1, h2, h3, h4 => by
    by_cases hi : at_ < t.length
    · rcases hr : rowF b (t.drop at_) with ⟨p, l⟩
      by_cases hl : l = 0
      · subst hl
        rw [go_none hi hr] at h4 ⊢
        exact run_go b t hb ht f (at_ + 1) x g A (by omega) (by omega) (by omega) h4
      · have hrow : RowIs b (t.drop at_) p l := by have h := rowF_is b (t.drop at_); rw [hr] at h; exact h
        obtain ⟨hc, hpl⟩ := row_take hrow
        have hpl := hpl hl
        have hle := hrow.le
        rw [List.length_drop] at hle
        rw [go_row hi hr hl] at h4 ⊢
        simp only [List.length_append] at h4
        have hn1 := numF_length_pos (2 * l + 1)
        have hn2 := numF_length_pos p
        obtain ⟨g', hg', hg1, e⟩ := run_add b t A (numF (2 * l + 1) ++ (numF p ++ goF b t f (at_ + l) (at_ + l))) ht x at_ g h1 h2 (by omega)
        rw [e]
        obtain ⟨g2, rfl⟩ : ∃ q, g' = q + 1 := ⟨g' - 1, by omega⟩
        have hp := piece_copy (b := b) (A ++ addF t x at_) (goF b t f (at_ + l) (at_ + l)) p l hpl (by omega) (by omega)
        have hbl : ((b.drop p).take l).length = l := by rw [List.length_take, List.length_drop]; omega
        rw [run_on (z := (A ++ addF t x at_).length + (numF (2 * l + 1)).length + (numF p).length) (R := (b.drop p).take l) (by simp; omega) hp (by intro h0; rw [h0] at hbl; simp at hbl; omega) (by rw [hbl, List.length_take]; omega)]
        have et : t.take at_ ++ (b.drop p).take l = t.take (at_ + l) := by rw [hc, ← List.take_add]
        rw [et]
        have ih := run_go b t hb ht f (at_ + l) (at_ + l) g2 (A ++ addF t x at_ ++ numF (2 * l + 1) ++ numF p) (Nat.le_refl _) (by omega) (by omega) (by omega)
        have e1 : A ++ addF t x at_ ++ (numF (2 * l + 1) ++ (numF p ++ goF b t f (at_ + l) (at_ + l))) = A ++ addF t x at_ ++ numF (2 * l + 1) ++ numF p ++ goF b t f (at_ + l) (at_ + l) := by simp [List.append_assoc]
        have e2 : (A ++ addF t x at_).length + (numF (2 * l + 1)).length + (numF p).length = (A ++ addF t x at_ ++ numF (2 * l + 1) ++ numF p).length := by simp only [List.length_append]
        rw [e1, e2]
        exact ih
    · have hat : at_ = t.length := by omega
      rw [go_end hi] at h4 ⊢
      obtain ⟨g', hg', hg1, e⟩ := run_add b t A [] ht x t.length g (by omega) (Nat.le_refl _) h4
      rw [List.append_nil] at e
      rw [e]
      obtain ⟨g2, rfl⟩ : ∃ q, g' = q + 1 := ⟨g' - 1, by omega⟩
      show (if (A ++ addF t x t.length).length < (A ++ addF t x t.length ++ []).length then _ else _) = _
      rw [List.append_nil, if_neg (Nat.lt_irrefl _), List.take_length, if_neg (Nat.lt_irrefl _)]
theorem make_lenF (b t : List UInt8) (hb : b.length ≤ 400000) (ht : t.length ≤ 400000) : lenF (makeF b t) = (b.length, t.length, (numF b.length).length + (numF t.length).length, 0) := by
  have h1 := getI_back [] (numF t.length ++ goF b t (t.length + 1) 0 0) b.length (by omega)
  have h2 := getI_back (numF b.length) (goF b t (t.length + 1) 0 0) t.length (by omega)
  rw [List.nil_append, List.length_nil, Nat.zero_add] at h1
  have h1' : getI (makeF b t) 0 = (b.length, (numF b.length).length, 0) := h1
  have h2' : getI (makeF b t) ((numF b.length).length : Nat) = (t.length, (numF b.length).length + (numF t.length).length, 0) := h2
  unfold lenF
  rw [h1']
  simp only [if_true]
  rw [h2']
  simp only [if_true]
theorem apply_make (b t : List UInt8) (hb : b.length ≤ 400000) (ht : t.length ≤ 262144) : applyF b (makeF b t) = (t, 0) := by
  unfold applyF
  rw [make_lenF b t hb (by omega)]
  simp only [ne_eq, not_true_eq_false, if_false]
  rw [if_neg (by omega)]
  have h := run_go b t hb (by omega) (t.length + 1) 0 0 ((makeF b t).length + 1) (numF b.length ++ numF t.length) (Nat.le_refl _) (Nat.zero_le _) (by omega) (by unfold makeF; simp only [List.length_append]; omega)
  rw [List.append_assoc, List.length_append] at h
  have h' : runF b (makeF b t) t.length ((makeF b t).length + 1) ((numF b.length).length + (numF t.length).length) [] = some t := h
  rw [h']
  rfl
theorem apply_other (b c t : List UInt8) (hb : b.length ≤ 400000) (ht : t.length ≤ 262144) (hbc : b.length ≠ c.length) : applyF c (makeF b t) = ([], 6) := by
  unfold applyF
  rw [make_lenF b t hb (by omega)]
  simp only [ne_eq, not_true_eq_false, if_false]
  rw [if_neg (by omega), if_pos hbc]

/-! ### How long a delta is -/
theorem num_two {n : Nat} (h : n < 16384) : (numF n).length ≤ 2 := numF_length_le 2 n (by simpa using h) (by omega)
theorem num_half {k : Nat} (h : 0 < k) (h2 : k ≤ 8000) : (numF (2 * k)).length ≤ k := by
  by_cases h1 : k < 2
  · have : k = 1 := by omega
    subst this
    rw [numF_lt _ (by omega)]; simp
  · have := num_two (n := 2 * k) (by omega); omega
theorem go_length (b t : List UInt8) (hb : b.length ≤ 5000) (ht : t.length ≤ 5000) : ∀ (f at_ x : Nat), x ≤ at_ → at_ ≤ t.length → (goF b t f at_ x).length ≤ 2 * (t.length - x)
  | 0, at_, x, h1, h2 => by simp [goF]
  | f + 1, at_, x, h1, h2 => by
    by_cases hi : at_ < t.length
    · rcases hr : rowF b (t.drop at_) with ⟨p, l⟩
      by_cases hl : l = 0
      · subst hl
        rw [go_none hi hr]
        exact go_length b t hb ht f (at_ + 1) x (by omega) (by omega)
      · have hrow : RowIs b (t.drop at_) p l := by have h := rowF_is b (t.drop at_); rw [hr] at h; exact h
        have hle := hrow.le
        have h8 := hrow.eight hl
        rw [List.length_drop] at hle
        have ih := go_length b t hb ht f (at_ + l) (at_ + l) (Nat.le_refl _) (by omega)
        have ha := add_len t x at_ h2
        have hn1 := num_two (n := 2 * l + 1) (by omega)
        have hn2 := num_two (n := p) (by omega)
        rw [go_row hi hr hl]
        simp only [List.length_append]
        by_cases hx : x < at_
        · rw [if_pos hx] at ha
          have := num_half (k := at_ - x) (by omega) (by omega)
          omega
        · rw [if_neg hx] at ha
          omega
    · rw [go_end hi]
      have ha := add_len t x t.length (Nat.le_refl _)
      by_cases hx : x < t.length
      · rw [if_pos hx] at ha
        have := num_half (k := t.length - x) (by omega) (by omega)
        omega
      · rw [if_neg hx] at ha
        omega
theorem make_length (b t : List UInt8) (hb : b.length ≤ 5000) (ht : t.length ≤ 5000) : (makeF b t).length ≤ 2 * t.length + 18 := by
  have h := go_length b t hb ht (t.length + 1) 0 0 (Nat.le_refl _) (Nat.zero_le _)
  have hn1 := num_two (n := b.length) (by omega)
  have hn2 := num_two (n := t.length) (by omega)
  unfold makeF
  simp only [List.length_append]
  omega

/-! ### A text of which a piece was turned -/
theorem row_big {b w : List UInt8} {p l q m : Nat} (hr : rowF b w = (p, l)) (hq : q < b.length) (hm : m ≤ lcpF (b.drop q) w) : (l = 0 ∧ m < 8) ∨ (8 ≤ l ∧ m ≤ l) := by
  have h := rowF_is b w
  rw [hr] at h
  rcases h with ⟨h8, hL⟩ | ⟨_, h0, hno⟩
  · have := hL.2.2.1 q hq
    exact .inr ⟨h8, by show m ≤ l; have h9 : lcpF (b.drop q) w ≤ l := this; omega⟩
  · exact .inl ⟨h0, by have := hno q hq; omega⟩
theorem add_cost (t : List UInt8) (x y : Nat) (hy : y ≤ t.length) (ht : t.length ≤ 5000) : (addF t x y).length ≤ 2 + (y - x) := by
  have ha := add_len t x y hy
  by_cases hx : x < y
  · rw [if_pos hx] at ha
    have := num_two (n := 2 * (y - x)) (by omega)
    omega
  · rw [if_neg hx] at ha
    omega
theorem row_cost {b t : List UInt8} {f at_ x p l : Nat} (hb : b.length ≤ 5000) (ht : t.length ≤ 5000) (hi : at_ < t.length) (hr : rowF b (t.drop at_) = (p, l)) (hl : l ≠ 0) :
    (goF b t (f + 1) at_ x).length ≤ 6 + (at_ - x) + (goF b t f (at_ + l) (at_ + l)).length ∧ at_ + l ≤ t.length := by
  have hrow : RowIs b (t.drop at_) p l := by have h := rowF_is b (t.drop at_); rw [hr] at h; exact h
  have hle := hrow.le
  rw [List.length_drop] at hle
  have ha := add_cost t x at_ (by omega) ht
  have hn1 := num_two (n := 2 * l + 1) (by omega)
  have hn2 := num_two (n := p) (by omega)
  rw [go_row hi hr hl]
  simp only [List.length_append]
  exact ⟨by omega, by omega⟩
section
variable {b t : List UInt8} {k P : Nat}
/-- Behind the piece. -/
theorem go_third (hb : b.length ≤ 5000) (ht : t.length ≤ 5000) (h3 : ∀ at_, k + P ≤ at_ → at_ < t.length → ∃ q, q < b.length ∧ t.length - at_ ≤ lcpF (b.drop q) (t.drop at_)) :
    ∀ f at_ x, x ≤ at_ → k + P ≤ at_ → at_ ≤ t.length → (goF b t f at_ x).length ≤ (at_ - x) + 6 + min (t.length - at_) 7
  | 0, at_, x, _, _, _ => by simp [goF]
  | f + 1, at_, x, h1, h2, h4 => by
    by_cases hi : at_ < t.length
    · rcases hr : rowF b (t.drop at_) with ⟨p, l⟩
      obtain ⟨q, hq, hm⟩ := h3 at_ h2 hi
      rcases row_big hr hq hm with ⟨rfl, hlt⟩ | ⟨h8, hml⟩
      · rw [go_none hi hr]
        have ih := go_third hb ht h3 f (at_ + 1) x (by omega) (by omega) (by omega)
        omega
      · obtain ⟨hc, hle⟩ := row_cost (f := f) (x := x) hb ht hi hr (by omega)
        have ih := go_third hb ht h3 f (at_ + l) (at_ + l) (Nat.le_refl _) (by omega) hle
        have e : at_ + l = t.length := by omega
        rw [e] at ih hc
        have e2 : (goF b t f t.length t.length).length ≤ 0 := by
          cases f with
          | zero => simp [goF]
          | succ f => rw [go_end (Nat.lt_irrefl _)]; unfold addF; rw [if_neg (Nat.lt_irrefl _)]; simp
        omega
    · rw [go_end hi]
      have := add_cost t x t.length (Nat.le_refl _) ht
      omega
theorem go_second (hb : b.length ≤ 5000) (ht : t.length ≤ 5000) (hkp : k + P ≤ t.length) (h3 : ∀ at_, k + P ≤ at_ → at_ < t.length → ∃ q, q < b.length ∧ t.length - at_ ≤ lcpF (b.drop q) (t.drop at_)) :
    ∀ f at_ x, x ≤ at_ → k ≤ at_ → at_ ≤ t.length → (goF b t f at_ x).length ≤ (at_ - x) + 2 * (k + P - at_) + 17
  | 0, at_, x, _, _, _ => by simp [goF]
  | f + 1, at_, x, h1, h2, h4 => by
    by_cases hb2 : k + P ≤ at_
    · have := go_third hb ht h3 (f + 1) at_ x h1 hb2 h4
      omega
    · have hi : at_ < t.length := by omega
      rcases hr : rowF b (t.drop at_) with ⟨p, l⟩
      by_cases hl : l = 0
      · subst hl
        rw [go_none hi hr]
        have ih := go_second hb ht hkp h3 f (at_ + 1) x (by omega) (by omega) (by omega)
        omega
      · have hrow : RowIs b (t.drop at_) p l := by have h := rowF_is b (t.drop at_); rw [hr] at h; exact h
        have h8 := hrow.eight hl
        obtain ⟨hc, hle⟩ := row_cost (f := f) (x := x) hb ht hi hr hl
        by_cases hb3 : k + P ≤ at_ + l
        · have := go_third hb ht h3 f (at_ + l) (at_ + l) (Nat.le_refl _) hb3 hle
          omega
        · have ih := go_second hb ht hkp h3 f (at_ + l) (at_ + l) (Nat.le_refl _) (by omega) hle
          omega
theorem go_first (hb : b.length ≤ 5000) (ht : t.length ≤ 5000) (hkp : k + P ≤ t.length) (h3 : ∀ at_, k + P ≤ at_ → at_ < t.length → ∃ q, q < b.length ∧ t.length - at_ ≤ lcpF (b.drop q) (t.drop at_))
    (h0 : ∀ at_, at_ < k → ∃ q, q < b.length ∧ k - at_ ≤ lcpF (b.drop q) (t.drop at_)) :
    ∀ f at_ x, x ≤ at_ → at_ ≤ t.length → (goF b t f at_ x).length ≤ (at_ - x) + 2 * P + 23 + min (k - at_) 7
  | 0, at_, x, _, _ => by simp [goF]
  | f + 1, at_, x, h1, h4 => by
    by_cases hb2 : k ≤ at_
    · have := go_second hb ht hkp h3 (f + 1) at_ x h1 hb2 h4
      omega
    · have hi : at_ < t.length := by omega
      rcases hr : rowF b (t.drop at_) with ⟨p, l⟩
      obtain ⟨q, hq, hm⟩ := h0 at_ (by omega)
      rcases row_big hr hq hm with ⟨rfl, hlt⟩ | ⟨h8, hml⟩
      · rw [go_none hi hr]
        have ih := go_first hb ht hkp h3 h0 f (at_ + 1) x (by omega) (by omega)
        omega
      · obtain ⟨hc, hle⟩ := row_cost (f := f) (x := x) hb ht hi hr (by omega)
        have ih := go_second hb ht hkp h3 f (at_ + l) (at_ + l) (Nat.le_refl _) (by omega) hle
        omega
end
theorem make_edits (b piece : List UInt8) (k : Nat) (hb : b.length ≤ 3000) (hp : piece.length ≤ 200) (hk : k + 10 ≤ b.length) :
    (makeF b (b.take k ++ piece ++ b.drop (k + 10))).length ≤ 4 * piece.length + 60 := by
  obtain ⟨t, ht⟩ : ∃ t, b.take k ++ piece ++ b.drop (k + 10) = t := ⟨_, rfl⟩
  have hl : t.length = k + piece.length + (b.length - (k + 10)) := by rw [← ht]; simp only [List.length_append, List.length_take, List.length_drop]; omega
  have h0 : ∀ at_, at_ < k → ∃ q, q < b.length ∧ k - at_ ≤ lcpF (b.drop q) (t.drop at_) := fun at_ h => by
    refine ⟨at_, by omega, (le_lcp_iff _ _ _).2 ⟨by rw [List.length_drop]; omega, by rw [List.length_drop]; omega, ?_⟩⟩
    have e1 : t.take k = b.take k := by rw [← ht, List.append_assoc, List.take_append_of_le_length (by rw [List.length_take]; omega), List.take_take]; congr 1; omega
    rw [← List.drop_take, ← List.drop_take, e1]
  have h3 : ∀ at_, k + piece.length ≤ at_ → at_ < t.length → ∃ q, q < b.length ∧ t.length - at_ ≤ lcpF (b.drop q) (t.drop at_) := fun at_ h h' => by
    refine ⟨k + 10 + (at_ - (k + piece.length)), by omega, (le_lcp_iff _ _ _).2 ⟨by rw [List.length_drop]; omega, by rw [List.length_drop]; exact Nat.le_refl _, ?_⟩⟩
    have e1 : t.drop at_ = b.drop (k + 10 + (at_ - (k + piece.length))) := by
      have e2 : at_ = (b.take k ++ piece).length + (at_ - (k + piece.length)) := by simp only [List.length_append, List.length_take]; omega
      rw [← ht]
      conv => lhs; rw [e2]
      rw [List.drop_append, List.drop_drop, List.drop_eq_nil_of_le (by omega), List.nil_append]
      congr 1
      omega
    rw [e1]
  have h := go_first (k := k) (P := piece.length) (b := b) (t := t) (by omega) (by omega) (by omega) h3 h0 (t.length + 1) 0 0 (Nat.le_refl _) (Nat.zero_le _)
  have hn1 := num_two (n := b.length) (by omega)
  have hn2 := num_two (n := t.length) (by omega)
  rw [ht]
  unfold makeF
  simp only [List.length_append]
  omega
#print axioms make_edits
end Go.Proofs.Ytheigemfbcgjcaa
