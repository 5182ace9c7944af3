/-
  Facts for the law ScoreTotal; Signbit.
-/
import Derived.Test.YtkafeadgjpglaaaScoreAwake
namespace Go.Proofs.Ytkafeadgjpglaaa
open Go.RowKit
open Ieee

theorem ord_below {x y : Nat} (h : belowB x y = true) : ordF x y = -1 := by
  unfold belowB at h
  simp only [Bool.and_eq_true, decide_eq_true_iff] at h
  unfold ordF intO
  rw [if_pos (by omega)]
theorem lt_ord {x y : Nat} (hx : x < 18446744073709551616) (hy : y < 18446744073709551616) (h : (FloatKind.f64.format.order x y == some .lt) = true) : ordF x y = -1 := by
  refine ord_below ?_
  rw [belowB_is hx hy]
  have h2 : (double.order x y == some .lt) = true := h
  rw [h2]
  rfl
theorem nan_ord {x y : Nat} (hx : x < 18446744073709551616) (hy : y < 18446744073709551616) (h : nanB x = true) (k : nanB y = false) : ordF x y = 1 := by
  rw [ordF_ref hx hy, h, k]; rfl
theorem zero_ord {x y : Nat} (hx : x < 18446744073709551616) (hy : y < 18446744073709551616) (h1 : (FloatKind.f64.format.order x 0 == some .eq) = true) (h2 : (FloatKind.f64.format.order y 0 == some .eq) = true) (hs : negB x = true) (ht : negB y = false) : ordF x y = -1 := by
  refine ord_below ?_
  have e1 : (double.order x 0 == some .eq) = true := h1
  have e2 : (double.order y 0 == some .eq) = true := h2
  have hx0 : x ≠ 0 := by
    rw [negB_iff hx] at hs
    have := of_decide_eq_true hs
    omega
  have hy0 : y = 0 := by
    have h3 := e2
    rw [order_eq] at h3
    simp only [Bool.and_eq_true, decide_eq_true_iff] at h3
    have h4 := h3.2
    rw [sr_zero, sr_val hy, ht] at h4
    simp at h4
    exact h4
  rw [belowB_is hx hy, e1, e2]
  subst hy0
  simp [hx0]
theorem nan_top {x : Nat} (hx : x < 18446744073709551616) : 0 ≤ ordF 9221120237041090561 x := by
  unfold ordF intO
  have h : riseF 9221120237041090561 = 18446744073709551615 := nan_rise (by decide)
  rw [h]
  have := riseF_lt hx
  rw [if_neg (by omega)]
  split <;> omega
set_option maxRecDepth 100000 in
theorem sign_any (b : Nat) (q : Bool) (w : World) (hb : b < 18446744073709551616) (hq : q = negB b) : Calls Try.prog 36 #[.float .f64 b] w fun e w' => e = .returned (.bool q) ∧ w = w' := by
  have hf := bits_run
  go_enter Try.func36, Try.ntmps36
  go_wp2
  go_ret
  refine ⟨retB ?_, rfl⟩
  rw [hq, negB_iff hb, Bool.eq_iff_iff]
  simp only [decide_eq_true_iff]
  unfold wrap64
  omega
end Go.Proofs.Ytkafeadgjpglaaa
