/-
  Floats' arithmetic walked: a sum, a quotient; the program's Ratio and Like, and the document's.
-/
import Derived.Test.YtkafeadgjpglaaaFltW
import Derived.Below
import Derived.LoopTactic
namespace Go.Proofs.Ytkafeadgjpglaaa
open Go.RowKit

/-- What an operation on floats gives: just one number, or one that is none. -/
def FOp (op : BinOp) (x y r : Nat) : Prop := match floatBits op .f64 x y with | some q => r = q | none => nanB r = true ∧ r < 18446744073709551616
theorem FOp.lt {op : BinOp} {x y r : Nat} (h : FOp op x y r) : r < 18446744073709551616 := by
  unfold FOp at h
  split at h
  · rename_i q hq
    subst h
    have := floatBits_wf hq
    simp only [Lit.wf, decide_eq_true_eq] at this
    exact this
  · exact h.2
theorem FOp.same {op : BinOp} {x y r s : Nat} (h : FOp op x y r) (k : FOp op x y s) : riseF r = riseF s := by
  unfold FOp at h k
  cases hf : floatBits op .f64 x y with
  | some q =>
    rw [hf] at h k
    rw [show r = q from h, show s = q from k]
  | none =>
    rw [hf] at h k
    rw [nan_rise h.1, nan_rise k.1]
theorem FOp.ord {op : BinOp} {x y r s : Nat} (h : FOp op x y r) (k : FOp op x y s) : 0 = ordF r s := by
  unfold ordF; rw [h.same k]; unfold intO; rw [if_neg (by omega), if_neg (by omega)]

theorem nan_cut (t : Nat) : nanB ((t % 2) * 2 ^ 63 + 0x7ff0000000000000 + 1 + (t / 2) % (2 ^ 52 - 1)) = true ∧ (t % 2) * 2 ^ 63 + 0x7ff0000000000000 + 1 + (t / 2) % (2 ^ 52 - 1) < 18446744073709551616 := by
  have h1 : t / 2 % (2 ^ 52 - 1) < 2 ^ 52 - 1 := Nat.mod_lt _ (by decide)
  have h2 : t % 2 = 0 ∨ t % 2 = 1 := by omega
  unfold nanB
  rw [decide_eq_true_iff, sw_val, inf_val]
  generalize t / 2 % (2 ^ 52 - 1) = q at h1 ⊢
  rcases h2 with h2 | h2 <;> rw [h2] <;> omega

theorem run_fop (w : World) (op : BinOp) (hop : op = .add ∨ op = .quo) (t : TypeId) (x y : Nat) : ∃ r w', (binOp op t (.float .f64 x) (.float .f64 y)).run Try.prog w = .ok (.float .f64 r) w' ∧ FOp op x y r ∧ Below w.heap.size w w' := by
  cases h : floatBits op .f64 x y with
  | some q => exact ⟨q, w, run_float_arith w op t .f64 x y q h, by unfold FOp; rw [h], Below.refl _ _⟩
  | none =>
    have hr : (binOp op t (.float .f64 x) (.float .f64 y)).run Try.prog w = .ok (.float .f64 ((Question.nanBits .f64 x y).cut (w.tape w.drawn (.nanBits .f64 x y)))) w.drew := by
      have hf : (Question.nanBits .f64 x y).forced = false := rfl
      unfold floatBits at h
      rcases hop with rfl | rfl
      · simp only at h
        simp [binOp, Op.floatArith, h, hf]
      · simp only at h
        simp [binOp, Op.floatArith, h, hf]
    refine ⟨_, _, hr, ?_, (Below.refl _ _).drew⟩
    unfold FOp
    rw [h]
    exact nan_cut _

/-- A sum, a quotient. -/
theorem wl_fop {w : World} {ops : Array Oper} {rest : List Oper} {o : Oper} {a : Act} {Q : Exit → Act → World → Prop} (hw : Region.wanted o (yielded ops a.tmps) = true) (op : BinOp) (hop : op = .add ∨ op = .quo) (x y : Operand) (r : TypeId) (ho : o.op = .binOp op 23 x y r)
    (b1 b2 : Nat) (hx : a.eval x = .float .f64 b1) (hy : a.eval y = .float .f64 b2)
    (h : ∀ b w', FOp op b1 b2 b → Below w.heap.size w w' → wpList Try.prog ops Q rest (a.put o.dst (.float .f64 b)) w') : wpList Try.prog ops Q (o :: rest) a w := by
  obtain ⟨q, w', hr, h1, h2⟩ := run_fop w op hop 23 b1 b2
  have hg : (eqGuard op 23 x y (.float .f64 b1) (.float .f64 b2)).run Try.prog w = .ok () w := by
    rcases hop with rfl | rfl <;> rfl
  unfold wpList
  rw [if_pos hw]
  refine .inl ?_
  unfold Oper.wp execOp
  simp only [ho, hx, hy, Sem.run_bind, hg, hr, Result.andThen_ok, Sem.run_pure]
  exact h q w' h1 h2

theorem wanted_plain {o : Oper} {l} (h : o.guard = none) : Region.wanted o l = true := by unfold Region.wanted; rw [h]

/-- A quotient of two whole numbers. -/
def RatioIs (a b : Int) (w : World) (e : Ending) (w' : World) : Prop := ∃ r, e = .returned (.float .f64 r) ∧ FOp .quo (floatOfInt .f64 a) (floatOfInt .f64 b) r ∧ Below w.heap.size w w'

theorem ratio_any (a b : Int) (w : World) : Calls Try.prog 16 #[.int .i64 a, .int .i64 b] w (RatioIs a b w) := by
  go_enter Try.func16, Try.ntmps16
  go_wp2_with ((with_reducible show wpList _ _ _ (⟨some 9, _, _, _, _, _⟩ :: _) _ _); refine wl_fop (wanted_plain rfl) .quo (.inr rfl) _ _ _ rfl (floatOfInt .f64 a) (floatOfInt .f64 b) rfl rfl ?_; intro r w1 hr hb)
  go_ret
  exact ⟨r, rfl, hr, hb⟩
theorem refRatio_any (a b : Int) (w : World) : Calls Try.prog 17 #[.int .i64 a, .int .i64 b] w (RatioIs a b w) := by
  go_enter Try.func17, Try.ntmps17
  go_wp2_with ((with_reducible show wpList _ _ _ (⟨some 13, _, _, _, _, _⟩ :: _) _ _); refine wl_fop (wanted_plain rfl) .quo (.inr rfl) _ _ _ rfl (floatOfInt .f64 a) (floatOfInt .f64 b) rfl rfl ?_; intro r w1 hr hb)
  go_ret
  exact ⟨r, rfl, hr, hb⟩
#print axioms ratio_any

/-- What two things have in common. -/
def okL (x : Int) : Prop := 0 ≤ x ∧ x ≤ 1099511627776
def LikeIs (c n m : Int) (w : World) (e : Ending) (w' : World) : Prop := ∃ r, e = .returned (.float .f64 r) ∧ ((okL c ∧ okL n ∧ okL m ∧ FOp .quo (floatOfInt .f64 (2 * c)) (floatOfInt .f64 (n + m)) r) ∨ (¬ (okL c ∧ okL n ∧ okL m) ∧ r = 9221120237041090561)) ∧ Below w.heap.size w w'

theorem retNo {c n m : Int} {w : World} (h : ¬ (okL c ∧ okL n ∧ okL m)) : LikeIs c n m w (.returned (.float .f64 9221120237041090561)) w := ⟨_, rfl, .inr ⟨h, rfl⟩, Below.refl _ _⟩

set_option maxHeartbeats 1000000 in
theorem refLike_any (c n m : Int) (w : World) : Calls Try.prog 19 #[.int .i64 c, .int .i64 n, .int .i64 m] w (LikeIs c n m w) := by
  by_cases h : okL c ∧ okL n ∧ okL m
  · have HH := Lib.hid h
    obtain ⟨⟨c1, c2⟩, ⟨n1, n2⟩, m1, m2⟩ := h
    go_enter Try.func19, Try.ntmps19
    go_wp2_with (go_at_call 17; refine (refRatio_any _ _ _).mono ?_; rintro e w1 ⟨r, rfl, hr, hb⟩)
    go_ret
    exact ⟨r, rfl, .inl ⟨HH.out.1, HH.out.2.1, HH.out.2.2, hr⟩, hb⟩
  · have HH := Lib.hid h
    have hc : c < 0 ∨ (0 ≤ c ∧ n < 0) ∨ (0 ≤ c ∧ 0 ≤ n ∧ m < 0) ∨ (0 ≤ c ∧ 0 ≤ n ∧ 0 ≤ m ∧ 1099511627776 < c) ∨ (0 ≤ c ∧ 0 ≤ n ∧ 0 ≤ m ∧ c ≤ 1099511627776 ∧ 1099511627776 < n) ∨ (0 ≤ c ∧ 0 ≤ n ∧ 0 ≤ m ∧ c ≤ 1099511627776 ∧ n ≤ 1099511627776 ∧ 1099511627776 < m) := by
      unfold okL at h; omega
    clear h
    rcases hc with h1 | ⟨h1, h2⟩ | ⟨h1, h2, h3⟩ | ⟨h1, h2, h3, h4⟩ | ⟨h1, h2, h3, h4, h5⟩ | ⟨h1, h2, h3, h4, h5, h6⟩
    all_goals
      go_enter Try.func19, Try.ntmps19
      go_wp2_with (go_at_call 37; refine (nan_any _).mono ?_; rintro e w1 ⟨rfl, rfl⟩)
      go_ret
      exact retNo HH.out
#print axioms refLike_any

set_option maxHeartbeats 2000000 in
theorem like_any (c n m : Int) (w : World) : Calls Try.prog 18 #[.int .i64 c, .int .i64 n, .int .i64 m] w (LikeIs c n m w) := by
  have i0 : ∀ w, (Instr.index 84 (.agg #[.int .i64 c, .int .i64 n, .int .i64 m]) (.int .i64 0)).run Try.prog w = .ok (.int .i64 c) w := fun _ => by kernel_rfl
  have i1 : ∀ w, (Instr.index 84 (.agg #[.int .i64 c, .int .i64 n, .int .i64 m]) (.int .i64 1)).run Try.prog w = .ok (.int .i64 n) w := fun _ => by kernel_rfl
  have i2 : ∀ w, (Instr.index 84 (.agg #[.int .i64 c, .int .i64 n, .int .i64 m]) (.int .i64 2)).run Try.prog w = .ok (.int .i64 m) w := fun _ => by kernel_rfl
  by_cases h : okL c ∧ okL n ∧ okL m
  · have HH := Lib.hid h
    obtain ⟨⟨c1, c2⟩, ⟨n1, n2⟩, m1, m2⟩ := h
    go_enter Try.func18, Try.ntmps18
    go_wp2
    refine wp_loop_rounds 4 ?_
    rw [rounds_succ]
    go_wp2
    rw [rounds_succ]
    go_wp2
    rw [rounds_succ]
    go_wp2
    rw [rounds_succ]
    go_wp2_with (go_at_call 16; refine (ratio_any _ _ _).mono ?_; rintro e w1 ⟨r, rfl, hr, hb⟩)
    go_ret
    exact ⟨r, rfl, .inl ⟨HH.out.1, HH.out.2.1, HH.out.2.2, hr⟩, hb⟩
  · have HH := Lib.hid h
    have hc : (c < 0 ∨ (0 ≤ c ∧ 1099511627776 < c)) ∨ ((0 ≤ c ∧ c ≤ 1099511627776) ∧ (n < 0 ∨ (0 ≤ n ∧ 1099511627776 < n))) ∨ ((0 ≤ c ∧ c ≤ 1099511627776) ∧ (0 ≤ n ∧ n ≤ 1099511627776) ∧ (m < 0 ∨ (0 ≤ m ∧ 1099511627776 < m))) := by
      unfold okL at h; omega
    clear h
    rcases hc with (h1 | ⟨h1, h2⟩) | ⟨⟨h1, h2⟩, h3 | ⟨h3, h4⟩⟩ | ⟨⟨h1, h2⟩, ⟨h3, h4⟩, h5 | ⟨h5, h6⟩⟩
    all_goals
      go_enter Try.func18, Try.ntmps18
      go_wp2
      refine wp_loop_rounds 4 ?_
      rw [rounds_succ]
      go_wp2_with (go_at_call 37; refine (nan_any _).mono ?_; rintro e w1 ⟨rfl, rfl⟩)
      try (rw [rounds_succ]; go_wp2_with (go_at_call 37; refine (nan_any _).mono ?_; rintro e w1 ⟨rfl, rfl⟩))
      try (rw [rounds_succ]; go_wp2_with (go_at_call 37; refine (nan_any _).mono ?_; rintro e w1 ⟨rfl, rfl⟩))
      go_ret
      exact retNo HH.out
#print axioms like_any
end Go.Proofs.Ytkafeadgjpglaaa
