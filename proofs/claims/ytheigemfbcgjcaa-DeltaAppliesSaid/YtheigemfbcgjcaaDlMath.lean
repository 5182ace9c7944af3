/-
  Rows of bytes in order: what begins alike stands together; the longest row that stands somewhere. (No program yet.)
-/
import Derived.Lib.Bytealg
namespace Go.Proofs.Ytheigemfbcgjcaa
open Go.Lib

/-- How many bytes two rows begin with that are the same. -/
def lcpF : List UInt8 → List UInt8 → Nat
  | x :: xs, y :: ys => if x = y then lcpF xs ys + 1 else 0
  | _, _ => 0
theorem lcp_le_left : ∀ (a b : List UInt8), lcpF a b ≤ a.length
  | [], _ => by simp [lcpF]
  | x :: xs, [] => by simp [lcpF]
  | x :: xs, y :: ys => by
    unfold lcpF
    split
    · have := lcp_le_left xs ys; simp; exact this
    · exact Nat.zero_le _
theorem lcp_le_right : ∀ (a b : List UInt8), lcpF a b ≤ b.length
  | [], _ => by simp [lcpF]
  | x :: xs, [] => by simp [lcpF]
  | x :: xs, y :: ys => by
    unfold lcpF
    split
    · have := lcp_le_right xs ys; simp; exact this
    · exact Nat.zero_le _
theorem le_lcp_iff : ∀ (k : Nat) (a b : List UInt8), k ≤ lcpF a b ↔ k ≤ a.length ∧ k ≤ b.length ∧ a.take k = b.take k
  | 0, a, b => by simp
  | k + 1, [], b => by simp [lcpF]
  | k + 1, x :: xs, [] => by simp [lcpF]
  | k + 1, x :: xs, y :: ys => by
    unfold lcpF
    by_cases h : x = y
    · rw [if_pos h]
      have := le_lcp_iff k xs ys
      simp only [Nat.add_le_add_iff_right, List.length_cons, List.take_succ_cons, List.cons.injEq]
      rw [this]
      constructor
      · rintro ⟨h1, h2, h3⟩; exact ⟨h1, h2, h, h3⟩
      · rintro ⟨h1, h2, _, h3⟩; exact ⟨h1, h2, h3⟩
    · rw [if_neg h]
      constructor
      · intro h1; omega
      · rintro ⟨_, _, h3⟩
        simp only [List.take_succ_cons, List.cons.injEq] at h3
        exact absurd h3.1 h
/-- One byte more is alike just if it is so. -/
theorem lcp_step {a b : List UInt8} {n : Nat} (h : a.take n = b.take n) (ha : n < a.length) (hb : n < b.length) (he : a.getD n 0 = b.getD n 0) : a.take (n + 1) = b.take (n + 1) := by
  rw [List.take_add_one, List.take_add_one, h]
  rw [List.getD_eq_getElem?_getD, List.getD_eq_getElem?_getD, List.getElem?_eq_getElem ha, List.getElem?_eq_getElem hb] at he
  rw [List.getElem?_eq_getElem ha, List.getElem?_eq_getElem hb]
  have he' : a[n] = b[n] := by simpa using he
  rw [he']
theorem lcp_end {a b : List UInt8} {n : Nat} (h : a.take n = b.take n) (ha : n ≤ a.length) (hb : n ≤ b.length) (he : ¬ (n < a.length ∧ n < b.length ∧ a.getD n 0 = b.getD n 0)) : lcpF a b = n := by
  have h1 : n ≤ lcpF a b := (le_lcp_iff n a b).2 ⟨ha, hb, h⟩
  by_cases h2 : n + 1 ≤ lcpF a b
  · obtain ⟨h3, h4, h5⟩ := (le_lcp_iff (n + 1) a b).1 h2
    exfalso
    apply he
    refine ⟨by omega, by omega, ?_⟩
    have h6 := congrArg (fun l => l.getD n 0) h5
    simpa [List.getD_eq_getElem?_getD, List.getElem?_take] using h6
  · omega

/-! ### The order of rows -/
theorem cmpB_self : ∀ a : List UInt8, compareBytes a a = 0
  | [] => rfl
  | x :: xs => by
    unfold compareBytes
    have : ¬ x < x := by simp
    rw [if_neg this, if_neg this]
    exact cmpB_self xs
theorem cmpB_nil (a : List UInt8) : compareBytes [] a ≤ 0 := by cases a <;> simp [compareBytes]
theorem cmpB_cons_nil (x : UInt8) (a : List UInt8) : compareBytes (x :: a) [] = 1 := by simp [compareBytes]
theorem cmpB_three : ∀ (a b : List UInt8), compareBytes a b = -1 ∨ compareBytes a b = 0 ∨ compareBytes a b = 1
  | [], [] => by simp [compareBytes]
  | [], _ :: _ => by simp [compareBytes]
  | _ :: _, [] => by simp [compareBytes]
  | x :: xs, y :: ys => by
    unfold compareBytes
    split
    · exact .inl rfl
    · split
      · exact .inr (.inr rfl)
      · exact cmpB_three xs ys
theorem cmpB_swap : ∀ (a b : List UInt8), compareBytes a b = - compareBytes b a
  | [], [] => by simp [compareBytes]
  | [], _ :: _ => by simp [compareBytes]
  | _ :: _, [] => by simp [compareBytes]
  | x :: xs, y :: ys => by
    unfold compareBytes
    by_cases h1 : x < y
    · have h2 : ¬ y < x := by simp only [UInt8.lt_iff_toNat_lt] at *; omega
      rw [if_pos h1, if_neg h2, if_pos h1]
    · by_cases h2 : y < x
      · rw [if_neg h1, if_pos h2, if_pos h2]; rfl
      · rw [if_neg h1, if_neg h2, if_neg h2, if_neg h1]
        exact cmpB_swap xs ys
theorem cmpB_eq : ∀ {a b : List UInt8}, compareBytes a b = 0 → a = b
  | [], [], _ => rfl
  | [], _ :: _, h => by simp [compareBytes] at h
  | _ :: _, [], h => by simp [compareBytes] at h
  | x :: xs, y :: ys, h => by
    unfold compareBytes at h
    by_cases h1 : x < y
    · rw [if_pos h1] at h; omega
    · by_cases h2 : y < x
      · rw [if_neg h1, if_pos h2] at h; omega
      · rw [if_neg h1, if_neg h2] at h
        have h3 : x = y := UInt8.toNat_inj.1 (by simp only [UInt8.lt_iff_toNat_lt] at *; omega)
        rw [h3, cmpB_eq h]
theorem cmpB_trans : ∀ {a b c : List UInt8}, compareBytes a b ≤ 0 → compareBytes b c ≤ 0 → compareBytes a c ≤ 0
  | [], _, _, _, _ => cmpB_nil _
  | x :: xs, [], c, h, _ => by rw [cmpB_cons_nil] at h; omega
  | x :: xs, y :: ys, [], _, h => by rw [cmpB_cons_nil] at h; omega
  | x :: xs, y :: ys, z :: zs, h1, h2 => by
    unfold compareBytes at *
    by_cases a1 : x < y
    · by_cases a2 : y < z
      · have : x < z := by simp only [UInt8.lt_iff_toNat_lt] at *; omega
        rw [if_pos this]; omega
      · by_cases a3 : z < y
        · rw [if_neg a2, if_pos a3] at h2; omega
        · have : x < z := by simp only [UInt8.lt_iff_toNat_lt] at *; omega
          rw [if_pos this]; omega
    · by_cases b1 : y < x
      · rw [if_neg a1, if_pos b1] at h1; omega
      · rw [if_neg a1, if_neg b1] at h1
        by_cases a2 : y < z
        · have : x < z := by simp only [UInt8.lt_iff_toNat_lt] at *; omega
          rw [if_pos this]; omega
        · by_cases a3 : z < y
          · rw [if_neg a2, if_pos a3] at h2; omega
          · rw [if_neg a2, if_neg a3] at h2
            have n1 : ¬ x < z := by simp only [UInt8.lt_iff_toNat_lt] at *; omega
            have n2 : ¬ z < x := by simp only [UInt8.lt_iff_toNat_lt] at *; omega
            rw [if_neg n1, if_neg n2]
            exact cmpB_trans h1 h2
theorem cmpB_lt_le {a b c : List UInt8} (h1 : compareBytes a b < 0) (h2 : compareBytes b c ≤ 0) : compareBytes a c < 0 := by
  have h3 := cmpB_trans (Int.le_of_lt h1) h2
  rcases Int.lt_or_eq_of_le h3 with h | h
  · exact h
  · have e := cmpB_eq h
    subst e
    have := cmpB_swap a b
    omega
theorem cmpB_le_lt {a b c : List UInt8} (h1 : compareBytes a b ≤ 0) (h2 : compareBytes b c < 0) : compareBytes a c < 0 := by
  have h3 := cmpB_trans h1 (by omega : compareBytes b c ≤ 0)
  rcases Int.lt_or_eq_of_le h3 with h | h
  · exact h
  · have e := cmpB_eq h
    subst e
    have := cmpB_swap a b
    omega
/-- What begins with a row stands behind it. -/
theorem cmpB_prefix : ∀ {r x : List UInt8}, r <+: x → compareBytes r x ≤ 0
  | [], x, _ => cmpB_nil x
  | a :: r, [], h => by simp at h
  | a :: r, b :: x, h => by
    rw [List.cons_prefix_cons] at h
    obtain ⟨rfl, h⟩ := h
    unfold compareBytes
    have : ¬ a < a := by simp
    rw [if_neg this, if_neg this]
    exact cmpB_prefix h
/-- What stands between two that begin with a row begins with it, too. -/
theorem prefix_between : ∀ {r x y z : List UInt8}, r <+: x → r <+: z → compareBytes x y ≤ 0 → compareBytes y z ≤ 0 → r <+: y
  | [], _, _, _, _, _, _, _ => List.nil_prefix
  | c :: r, [], _, _, h, _, _, _ => by simp at h
  | c :: r, _ :: _, _, [], _, h, _, _ => by simp at h
  | c :: r, a :: x, [], d :: z, _, _, h, _ => by rw [cmpB_cons_nil] at h; omega
  | c :: r, a :: x, b :: y, d :: z, h1, h2, h3, h4 => by
    rw [List.cons_prefix_cons] at h1 h2
    obtain ⟨rfl, h1⟩ := h1
    obtain ⟨rfl, h2⟩ := h2
    unfold compareBytes at h3 h4
    by_cases a1 : c < b
    · have a2 : ¬ b < c := by simp only [UInt8.lt_iff_toNat_lt] at *; omega
      rw [if_neg a2, if_pos a1] at h4; omega
    · by_cases a2 : b < c
      · rw [if_neg a1, if_pos a2] at h3; omega
      · have e : c = b := UInt8.toNat_inj.1 (by simp only [UInt8.lt_iff_toNat_lt] at *; omega)
        rw [if_neg a1, if_neg a2] at h3
        rw [if_neg a2, if_neg a1] at h4
        subst e
        rw [List.cons_prefix_cons]
        exact ⟨rfl, prefix_between h1 h2 h3 h4⟩
theorem take_prefix_lcp {a b : List UInt8} {k : Nat} (h : k ≤ lcpF a b) : b.take k <+: a := by
  obtain ⟨_, _, h3⟩ := (le_lcp_iff k a b).1 h
  rw [← h3]; exact List.take_prefix _ _
theorem lcp_of_prefix {a b : List UInt8} {k : Nat} (hk : k ≤ b.length) (h : b.take k <+: a) : k ≤ lcpF a b := by
  have h1 : (b.take k).length = k := by rw [List.length_take]; omega
  have h2 := h.length_le
  rw [h1] at h2
  refine (le_lcp_iff k a b).2 ⟨h2, hk, ?_⟩
  obtain ⟨s, hs⟩ := h
  rw [← hs, List.take_append_of_le_length (by omega), List.take_take, Nat.min_self]
theorem lcp_comm (a b : List UInt8) : lcpF a b = lcpF b a := by
  apply Nat.le_antisymm
  · obtain ⟨h1, h2, h3⟩ := (le_lcp_iff _ a b).1 (Nat.le_refl _)
    exact (le_lcp_iff _ b a).2 ⟨h2, h1, h3.symm⟩
  · obtain ⟨h1, h2, h3⟩ := (le_lcp_iff _ b a).1 (Nat.le_refl _)
    exact (le_lcp_iff _ a b).2 ⟨h2, h1, h3.symm⟩
/-- The nearer, the more is alike. -/
theorem lcp_below {x y w : List UInt8} (h1 : compareBytes x y ≤ 0) (h2 : compareBytes y w ≤ 0) : lcpF x w ≤ lcpF y w :=
  lcp_of_prefix (lcp_le_right x w) (prefix_between (take_prefix_lcp (Nat.le_refl _)) (List.take_prefix _ w) h1 h2)
theorem lcp_above {x y w : List UInt8} (h1 : compareBytes w y ≤ 0) (h2 : compareBytes y x ≤ 0) : lcpF x w ≤ lcpF y w :=
  lcp_of_prefix (lcp_le_right x w) (prefix_between (List.take_prefix _ w) (take_prefix_lcp (Nat.le_refl _)) h1 h2)

/-! ### Rows cut to so many bytes -/
theorem cmpB_take_mono : ∀ (K M : Nat) {x y : List UInt8}, K ≤ M → compareBytes (x.take K) (y.take K) < 0 → compareBytes (x.take M) (y.take M) < 0
  | 0, _, _, _, _, h => by simp [compareBytes] at h
  | K + 1, 0, _, _, hm, _ => by omega
  | K + 1, M + 1, [], [], _, h => by simp [compareBytes] at h
  | K + 1, M + 1, [], y :: ys, _, _ => by simp [compareBytes]
  | K + 1, M + 1, x :: xs, [], _, h => by simp [compareBytes] at h
  | K + 1, M + 1, x :: xs, y :: ys, hm, h => by
    simp only [List.take_succ_cons] at *
    unfold compareBytes at *
    by_cases a1 : x < y
    · rw [if_pos a1]; omega
    · by_cases a2 : y < x
      · rw [if_neg a1, if_pos a2] at h; omega
      · rw [if_neg a1, if_neg a2] at *
        exact cmpB_take_mono K M (by omega) h
theorem cmpB_full {K : Nat} {x y : List UInt8} (h : compareBytes (x.take K) (y.take K) < 0) : compareBytes x y < 0 := by
  have := cmpB_take_mono K (max K (max x.length y.length)) (by omega) h
  rwa [List.take_of_length_le (by omega), List.take_of_length_le (by omega)] at this
/-- Where so many bytes are alike, those behind them tell. -/
theorem cmpB_behind : ∀ (K M : Nat) {x y : List UInt8}, x.take K = y.take K → compareBytes (x.take (K + M)) (y.take (K + M)) = compareBytes ((x.drop K).take M) ((y.drop K).take M)
  | 0, M, x, y, _ => by simp
  | K + 1, M, [], [], _ => by simp
  | K + 1, M, [], y :: ys, h => by simp at h
  | K + 1, M, x :: xs, [], h => by simp at h
  | K + 1, M, x :: xs, y :: ys, h => by
    simp only [List.take_succ_cons, List.cons.injEq] at h
    obtain ⟨rfl, h⟩ := h
    rw [show K + 1 + M = (K + M) + 1 from by omega]
    simp only [List.take_succ_cons, List.drop_succ_cons]
    conv => lhs; unfold compareBytes
    have : ¬ x < x := by simp
    rw [if_neg this, if_neg this]
    exact cmpB_behind K M h
end Go.Proofs.Ytheigemfbcgjcaa
