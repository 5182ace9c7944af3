/-
  The walks on floats: no number, bits, which stands ahead.
-/
import Derived.Test.YtkafeadgjpglaaaFltBits
import Derived.Test.YtkafeadgjpglaaaChecked
import Derived.WalkKit
import Derived.WalkLawsBesides
import Derived.Laws.FloatArith
import Derived.Lib.Hide
namespace Go.Proofs.Ytkafeadgjpglaaa
open Go.RowKit

abbrev F (b : Nat) : Value := .float .f64 b

theorem bits_run (b : Nat) (W : World) : (callFunc 68 #[.float .f64 b]).run Try.prog W = .ok (.value (.int .u64 (b : Int))) W := by
  rw [run_callFunc_extern Try.func68 (by kernel_rfl) (by kernel_rfl) (by kernel_rfl) (e := Extern.MathFloatBits.float64bits) (by kernel_rfl)]
  rfl
theorem frombits_run (b : Int) (W : World) : (callFunc 69 #[.int .u64 b]).run Try.prog W = .ok (.value (.float .f64 b.toNat)) W := by
  rw [run_callFunc_extern Try.func69 (by kernel_rfl) (by kernel_rfl) (by kernel_rfl) (e := Extern.MathFloatBits.float64frombits) (by kernel_rfl)]
  rfl

theorem retB {a b : Bool} (h : a = b) : Ending.returned (.bool a) = .returned (.bool b) := by rw [h]

theorem isNaN_any (b : Nat) (w : World) : Calls Try.prog 35 #[.float .f64 b] w fun e w' => e = .returned (.bool (nanB b)) ∧ w = w' := by
  have h : (FloatKind.f64.format.order b b != some .eq) = nanB b := order_self_ne b
  have HN := Lib.hid h
  clear h
  go_enter Try.func35, Try.ntmps35
  go_wp2
  go_ret
  exact ⟨retB HN.out, rfl⟩
theorem refNan_any (b : Nat) (w : World) : Calls Try.prog 56 #[.float .f64 b] w fun e w' => e = .returned (.bool (nanB b)) ∧ w = w' := by
  have h : (FloatKind.f64.format.order b b != some .eq) = nanB b := order_self_ne b
  have HN := Lib.hid h
  clear h
  go_enter Try.func56, Try.ntmps56
  go_wp2
  go_ret
  exact ⟨retB HN.out, rfl⟩
theorem nan_any (w : World) : Calls Try.prog 37 #[] w fun e w' => e = .returned (.float .f64 9221120237041090561) ∧ w = w' := by
  have hf := frombits_run
  go_enter Try.func37, Try.ntmps37
  go_wp2
  go_ret
  exact ⟨rfl, rfl⟩

theorem isNaN_is (b : Nat) (q : Bool) (w : World) (hq : q = nanB b) : Calls Try.prog 35 #[.float .f64 b] w fun e w' => e = .returned (.bool q) ∧ w = w' := by subst hq; exact isNaN_any b w
theorem refNan_is (b : Nat) (q : Bool) (w : World) (hq : q = nanB b) : Calls Try.prog 56 #[.float .f64 b] w fun e w' => e = .returned (.bool q) ∧ w = w' := by subst hq; exact refNan_any b w
theorem retU {a b : Int} (h : a = b) : Ending.returned (.int .u64 a) = .returned (.int .u64 b) := by rw [h]
theorem retI {a b : Int} (h : a = b) : Ending.returned (.int .i64 a) = .returned (.int .i64 b) := by rw [h]

theorem rise_any (b : Nat) (w : World) (hb : b < 18446744073709551616) : Calls Try.prog 60 #[.float .f64 b] w fun e w' => e = .returned (.int .u64 (riseF b : Int)) ∧ w = w' := by
  have hf := bits_run
  have ha := bits_and_sign hb
  have HX := Lib.hid (bits_not hb)
  have HB := Lib.hid hb
  have HO := Lib.hid (fun h => bits_or_sign (b := b) h)
  have HG := Lib.hid (negB_iff hb)
  obtain ⟨q, hq⟩ : ∃ q, q = nanB b := ⟨_, rfl⟩
  obtain ⟨s, hs⟩ : ∃ s, s = negB b := ⟨_, rfl⟩
  have HQ := Lib.hid hq
  have HS := Lib.hid hs
  rw [← hs] at ha
  clear hb hq hs
  rcases q with _ | _
  · rcases s with _ | _
    · have HE := Lib.hid (show bits .or .u64 (b : Int) 9223372036854775808 = (riseF b : Int) by
        rw [HO.out (by have h := HG.out; rw [← HS.out] at h; have := of_decide_eq_false h.symm; omega)]
        unfold riseF; rw [← HQ.out, ← HS.out]; rfl)
      go_enter Try.func60, Try.ntmps60
      go_wp2_with (go_at_call 35; refine (isNaN_is b _ _ HQ.out).mono ?_; rintro e w' ⟨rfl, rfl⟩)
      go_ret
      exact ⟨retU HE.out, rfl⟩
    · have HE := Lib.hid (show bits .xor .u64 IntKind.u64.max (b : Int) = (riseF b : Int) by
        rw [HX.out]
        unfold riseF; rw [← HQ.out, ← HS.out]; rfl)
      go_enter Try.func60, Try.ntmps60
      go_wp2_with (go_at_call 35; refine (isNaN_is b _ _ HQ.out).mono ?_; rintro e w' ⟨rfl, rfl⟩)
      go_ret
      exact ⟨retU HE.out, rfl⟩
  · have HE := Lib.hid (show (18446744073709551615 : Int) = (riseF b : Int) by rw [nan_rise HQ.out.symm]; rfl)
    clear ha
    go_enter Try.func60, Try.ntmps60
    go_wp2_with (go_at_call 35; refine (isNaN_is b _ _ HQ.out).mono ?_; rintro e w' ⟨rfl, rfl⟩)
    go_ret
    exact ⟨retU HE.out, rfl⟩
#print axioms rise_any

theorem isNaNU_any (a : Int) (w : World) : Calls Try.prog 88 #[.int .u64 a] w fun e w' => e = .returned (.bool false) ∧ w = w' := by
  have h : (a != a) = false := by simp
  go_enter Try.func88, Try.ntmps88
  go_wp2
  go_ret
  exact ⟨rfl, rfl⟩

theorem cmpU_any (a b : Int) (w : World) : Calls Try.prog 59 #[.int .u64 a, .int .u64 b] w fun e w' => e = .returned (.int .i64 (intO a b)) ∧ w = w' := by
  by_cases h1 : a < b
  · have HE := Lib.hid (show intO a b = -1 by unfold intO; rw [if_pos h1])
    go_enter Try.func59, Try.ntmps59
    go_wp2_with (go_at_call 88; refine (isNaNU_any _ _).mono ?_; rintro e w' ⟨rfl, rfl⟩)
    go_ret
    exact ⟨by rw [HE.out]; rfl, rfl⟩
  · by_cases h2 : b < a
    · have HE := Lib.hid (show intO a b = 1 by unfold intO; rw [if_neg h1, if_pos h2])
      have d1 : decide (a < b) = false := decide_eq_false h1
      clear h1
      go_enter Try.func59, Try.ntmps59
      go_wp2_with (go_at_call 88; refine (isNaNU_any _ _).mono ?_; rintro e w' ⟨rfl, rfl⟩)
      go_ret
      exact ⟨by rw [HE.out]; rfl, rfl⟩
    · have HE := Lib.hid (show intO a b = 0 by unfold intO; rw [if_neg h1, if_neg h2])
      have d1 : decide (a < b) = false := decide_eq_false h1
      have d2 : decide (b < a) = false := decide_eq_false h2
      clear h1 h2
      go_enter Try.func59, Try.ntmps59
      go_wp2_with (go_at_call 88; refine (isNaNU_any _ _).mono ?_; rintro e w' ⟨rfl, rfl⟩)
      go_ret
      exact ⟨by rw [HE.out]; rfl, rfl⟩

/-- The program's Order. -/
theorem order_any (x y : Nat) (w : World) (hx : x < 18446744073709551616) (hy : y < 18446744073709551616) : Calls Try.prog 21 #[.float .f64 x, .float .f64 y] w fun e w' => e = .returned (.int .i64 (ordF x y)) ∧ w = w' := by
  have HX := Lib.hid hx
  have HY := Lib.hid hy
  obtain ⟨a, ha⟩ : ∃ a, a = riseF x := ⟨_, rfl⟩
  obtain ⟨b, hb⟩ : ∃ b, b = riseF y := ⟨_, rfl⟩
  have HC := fun W => Lib.hid (show Calls Try.prog 60 #[.float .f64 x] W fun e w' => e = .returned (.int .u64 (a : Int)) ∧ W = w' by rw [ha]; exact rise_any x W hx)
  have HD := fun W => Lib.hid (show Calls Try.prog 60 #[.float .f64 y] W fun e w' => e = .returned (.int .u64 (b : Int)) ∧ W = w' by rw [hb]; exact rise_any y W hy)
  have HE := Lib.hid (show intO a b = ordF x y by unfold ordF; rw [ha, hb])
  clear hx hy ha hb
  go_enter Try.func21, Try.ntmps21
  go_wp2_with (first
    | (go_at_call 60; (first | (with_reducible refine (HC _).out.mono ?_) | (with_reducible refine (HD _).out.mono ?_)); rintro e w' ⟨rfl, rfl⟩)
    | (go_at_call 59; (with_reducible refine (cmpU_any _ _ _).mono ?_); rintro e w' ⟨rfl, rfl⟩))
  go_ret
  exact ⟨retI HE.out, rfl⟩
#print axioms order_any
theorem order_is (x y : Nat) (z : Int) (w : World) (hx : x < 18446744073709551616) (hy : y < 18446744073709551616) (hz : z = ordF x y) : Calls Try.prog 21 #[.float .f64 x, .float .f64 y] w fun e w' => e = .returned (.int .i64 z) ∧ w = w' := by
  subst hz; exact order_any x y w hx hy

/-- The document's below. -/
theorem below_any (x y : Nat) (w : World) (hx : x < 18446744073709551616) (hy : y < 18446744073709551616) : Calls Try.prog 57 #[.float .f64 x, .float .f64 y] w fun e w' => e = .returned (.bool (belowB x y)) ∧ w = w' := by
  have hf := bits_run
  have HB := Lib.hid (belowB_is hx hy)
  obtain ⟨p, hp⟩ : ∃ p, p = (FloatKind.f64.format.order x y == some .lt) := ⟨_, rfl⟩
  obtain ⟨q, hq⟩ : ∃ q, q = (FloatKind.f64.format.order x 0 == some .eq) := ⟨_, rfl⟩
  obtain ⟨r, hr⟩ : ∃ r, r = (FloatKind.f64.format.order y 0 == some .eq) := ⟨_, rfl⟩
  obtain ⟨s, hs⟩ : ∃ s, s = ((x : Int) != 0) := ⟨_, rfl⟩
  obtain ⟨t, ht⟩ : ∃ t, t = ((y : Int) == 0) := ⟨_, rfl⟩
  have HE := Lib.hid (show belowB x y = (p || (q && r && s && t)) by
    rw [HB.out, hp, hq, hr, hs, ht]
    have e1 : ((x : Int) != 0) = !decide (x = 0) := by rw [Bool.eq_iff_iff]; simp
    have e2 : ((y : Int) == 0) = decide (y = 0) := by rw [Bool.eq_iff_iff]; simp
    rw [e1, e2]
    rfl)
  clear hx hy HB
  have p1 := hp.symm
  have q1 := hq.symm
  have r1 := hr.symm
  have s1 := hs.symm
  have t1 := ht.symm
  clear hp hq hr hs ht
  rcases p with _ | _
  · rcases q with _ | _ <;> rcases r with _ | _ <;> rcases s with _ | _ <;> rcases t with _ | _
    all_goals
      go_enter Try.func57, Try.ntmps57
      go_wp2
      go_ret
      exact ⟨by rw [HE.out]; rfl, rfl⟩
  · clear q1 r1 s1 t1
    go_enter Try.func57, Try.ntmps57
    go_wp2
    go_ret
    exact ⟨by rw [HE.out]; rfl, rfl⟩
#print axioms below_any
theorem below_is (x y : Nat) (q : Bool) (w : World) (hx : x < 18446744073709551616) (hy : y < 18446744073709551616) (hq : q = belowB x y) : Calls Try.prog 57 #[.float .f64 x, .float .f64 y] w fun e w' => e = .returned (.bool q) ∧ w = w' := by
  subst hq; exact below_any x y w hx hy

theorem ordF_ref {x y : Nat} (hx : x < 18446744073709551616) (hy : y < 18446744073709551616) :
    ordF x y = if nanB x && nanB y then 0 else if nanB x then 1 else if nanB y || belowB x y then -1 else if belowB y x then 1 else 0 := by
  unfold belowB ordF intO
  cases hnx : nanB x
  · have h1 := num_rise hx hnx
    cases hny : nanB y
    · simp only [Bool.and_self, Bool.false_eq_true, if_false, Bool.false_or, Bool.not_false, Bool.true_and, decide_eq_true_iff]
      by_cases h : riseF x < riseF y
      · rw [if_pos (by omega), if_pos h]
      · rw [if_neg (by omega), if_neg h]
        by_cases h2 : riseF y < riseF x
        · rw [if_pos (by omega), if_pos h2]
        · rw [if_neg (by omega), if_neg h2]
    · have h2 := nan_rise hny
      simp
      omega
  · have h1 := nan_rise hnx
    cases hny : nanB y
    · have h2 := num_rise hy hny
      simp
      omega
    · have h2 := nan_rise hny
      simp
      omega

/-- The document's Order. -/
theorem refOrder_any (x y : Nat) (w : World) (hx : x < 18446744073709551616) (hy : y < 18446744073709551616) : Calls Try.prog 15 #[.float .f64 x, .float .f64 y] w fun e w' => e = .returned (.int .i64 (ordF x y)) ∧ w = w' := by
  have HR := Lib.hid (ordF_ref hx hy)
  obtain ⟨a, ha⟩ : ∃ a, a = nanB x := ⟨_, rfl⟩
  obtain ⟨b, hb⟩ : ∃ b, b = nanB y := ⟨_, rfl⟩
  obtain ⟨p, hp⟩ : ∃ p, p = belowB x y := ⟨_, rfl⟩
  obtain ⟨q, hq⟩ : ∃ q, q = belowB y x := ⟨_, rfl⟩
  have HE := Lib.hid (show ordF x y = if a && b then 0 else if a then 1 else if b || p then -1 else if q then 1 else 0 by rw [HR.out, ha, hb, hp, hq])
  have HA := fun W => Lib.hid (refNan_is x a W ha)
  have HB := fun W => Lib.hid (refNan_is y b W hb)
  have HP := fun W => Lib.hid (below_is x y p W hx hy hp)
  have HQ := fun W => Lib.hid (below_is y x q W hy hx hq)
  clear hx hy ha hb hp hq HR
  rcases a with _ | _ <;> rcases b with _ | _ <;> rcases p with _ | _ <;> rcases q with _ | _
  all_goals
    go_enter Try.func15, Try.ntmps15
    go_wp2_with (first
      | (go_at_call 56; (first | (with_reducible refine (HA _).out.mono ?_) | (with_reducible refine (HB _).out.mono ?_)); rintro e w' ⟨rfl, rfl⟩)
      | (go_at_call 57; (first | (with_reducible refine (HP _).out.mono ?_) | (with_reducible refine (HQ _).out.mono ?_)); rintro e w' ⟨rfl, rfl⟩))
    go_ret
    exact ⟨by rw [HE.out]; rfl, rfl⟩
#print axioms refOrder_any
theorem refOrder_is (x y : Nat) (z : Int) (w : World) (hx : x < 18446744073709551616) (hy : y < 18446744073709551616) (hz : z = ordF x y) : Calls Try.prog 15 #[.float .f64 x, .float .f64 y] w fun e w' => e = .returned (.int .i64 z) ∧ w = w' := by
  subst hz; exact refOrder_any x y w hx hy
end Go.Proofs.Ytkafeadgjpglaaa
