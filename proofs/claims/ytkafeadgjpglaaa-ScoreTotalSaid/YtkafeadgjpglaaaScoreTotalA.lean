/-
  The walk of the law ScoreTotal, part A.
-/
import Derived.Test.YtkafeadgjpglaaaScoreTotal0
namespace Go.Proofs.Ytkafeadgjpglaaa
open Go.RowKit

set_option maxRecDepth 100000 in
set_option maxHeartbeats 8000000 in
theorem scoreTotal_A (x y z : Nat) (w : World) (hx : x < 18446744073709551616) (hy : y < 18446744073709551616) (hz : z < 18446744073709551616) (hc : (-1 : Int) = ordF x y) : Calls Try.prog 8 #[.float .f64 x, .float .f64 y, .float .f64 z] w (Yes w) := by
  obtain ⟨v, hv⟩ : ∃ v, v = ordF y z := ⟨_, rfl⟩
  obtain ⟨u, hu⟩ : ∃ u, u = ordF x z := ⟨_, rfl⟩
  obtain ⟨o, ho⟩ : ∃ o, o = ordF 9221120237041090561 x := ⟨_, rfl⟩
  have hr : (1 : Int) = ordF y x := by have := ordF_anti x y; omega
  have ho0 : 0 ≤ o := by rw [ho]; exact nan_top hx
  have HC := fun W => Lib.hid (order_is x y _ W hx hy hc)
  have HR := fun W => Lib.hid (order_is y x _ W hy hx hr)
  have HV := fun W => Lib.hid (order_is y z v W hy hz hv)
  have HU := fun W => Lib.hid (order_is x z u W hx hz hu)
  have HO := fun W => Lib.hid (order_is 9221120237041090561 x o W (by decide) hx ho)
  obtain ⟨p, hp⟩ : ∃ p, p = (FloatKind.f64.format.order x y == some .lt) := ⟨_, rfl⟩
  obtain ⟨n, hn⟩ : ∃ n, n = nanB x := ⟨_, rfl⟩
  obtain ⟨m, hm⟩ : ∃ m, m = nanB y := ⟨_, rfl⟩
  obtain ⟨q, hq⟩ : ∃ q, q = (FloatKind.f64.format.order x 0 == some .eq) := ⟨_, rfl⟩
  obtain ⟨r, hr0⟩ : ∃ r, r = (FloatKind.f64.format.order y 0 == some .eq) := ⟨_, rfl⟩
  obtain ⟨s, hs⟩ : ∃ s, s = negB x := ⟨_, rfl⟩
  obtain ⟨t, ht⟩ : ∃ t, t = negB y := ⟨_, rfl⟩
  have HN := fun W => Lib.hid (isNaN_is x n W hn)
  have HM := fun W => Lib.hid (isNaN_is y m W hm)
  have HS := fun W => Lib.hid (sign_any x s W hx hs)
  have HT := fun W => Lib.hid (sign_any y t W hy ht)
  have F1 : p = true → ((-1 : Int) : Int) = -1 := fun h => hc.trans (lt_ord hx hy (hp.symm.trans h))
  have F2 : n = true → m = false → ((-1 : Int) : Int) = 1 := fun h k => hc.trans (nan_ord hx hy (hn.symm.trans h) (hm.symm.trans k))
  have F3 : q = true → r = true → s = true → t = false → ((-1 : Int) : Int) = -1 := fun h1 h2 h3 h4 => hc.trans (zero_ord hx hy (hq.symm.trans h1) (hr0.symm.trans h2) (hs.symm.trans h3) (ht.symm.trans h4))
  have F4 : ((-1 : Int) : Int) ≤ 0 → v ≤ 0 → u ≤ 0 := fun h k => by rw [hu]; exact ordF_trans (y := y) (by omega) (by omega)
  have p1 := hp.symm
  have q1 := hq.symm
  have r1 := hr0.symm
  clear hv hu ho hr hp hn hm hq hr0 hs ht hx hy hz hc
  have G : (n && !m) = false := by
    cases n <;> cases m <;> first | rfl | exact absurd (F2 rfl rfl) (by decide)
  clear F1 F2 F3
  have NC : n = false ∨ (n = true ∧ m = true) := by cases n <;> cases m <;> simp_all
  have ZC : q = false ∨ (q = true ∧ r = false) ∨ (q = true ∧ r = true ∧ s = false) ∨ (q = true ∧ r = true ∧ s = true ∧ t = true) ∨ (q = true ∧ r = true ∧ s = true ∧ t = false) := by clear p1 q1 r1; cases q <;> cases r <;> cases s <;> cases t <;> simp_all
  clear G
  by_cases hv0 : 0 < v
  · clear F4
    rcases p with _ | _ <;> rcases NC with rfl | ⟨rfl, rfl⟩ <;> rcases ZC with rfl | ⟨rfl, rfl⟩ | ⟨rfl, rfl, rfl⟩ | ⟨rfl, rfl, rfl, rfl⟩ | ⟨rfl, rfl, rfl, rfl⟩
    all_goals
      go_enter Try.func8, Try.ntmps8
      go_wp2_with (first
        | (go_at_call 21; (first | (with_reducible refine (HC _).out.mono ?_) | (with_reducible refine (HV _).out.mono ?_) | (with_reducible refine (HU _).out.mono ?_) | (with_reducible refine (HR _).out.mono ?_) | (with_reducible refine (HO _).out.mono ?_)); rintro e w9 ⟨rfl, rfl⟩)
        | (go_at_call 35; (first | (with_reducible refine (HN _).out.mono ?_) | (with_reducible refine (HM _).out.mono ?_)); rintro e w9 ⟨rfl, rfl⟩)
        | (go_at_call 36; (first | (with_reducible refine (HS _).out.mono ?_) | (with_reducible refine (HT _).out.mono ?_)); rintro e w9 ⟨rfl, rfl⟩)
        | (go_at_call 37; (with_reducible refine (nan_any _).mono ?_); rintro e w9 ⟨rfl, rfl⟩)
        | (go_at_call 20; (with_reducible refine (awake_any _).mono ?_); rintro e w1 ⟨rfl, hb⟩; have HB := Lib.hid hb; clear hb))
      go_ret
      exact ⟨rfl, HB.out⟩
  · have hu0 : u ≤ 0 := F4 (by decide) (by omega)
    clear F4
    rcases p with _ | _ <;> rcases NC with rfl | ⟨rfl, rfl⟩ <;> rcases ZC with rfl | ⟨rfl, rfl⟩ | ⟨rfl, rfl, rfl⟩ | ⟨rfl, rfl, rfl, rfl⟩ | ⟨rfl, rfl, rfl, rfl⟩
    all_goals
      go_enter Try.func8, Try.ntmps8
      go_wp2_with (first
        | (go_at_call 21; (first | (with_reducible refine (HC _).out.mono ?_) | (with_reducible refine (HV _).out.mono ?_) | (with_reducible refine (HU _).out.mono ?_) | (with_reducible refine (HR _).out.mono ?_) | (with_reducible refine (HO _).out.mono ?_)); rintro e w9 ⟨rfl, rfl⟩)
        | (go_at_call 35; (first | (with_reducible refine (HN _).out.mono ?_) | (with_reducible refine (HM _).out.mono ?_)); rintro e w9 ⟨rfl, rfl⟩)
        | (go_at_call 36; (first | (with_reducible refine (HS _).out.mono ?_) | (with_reducible refine (HT _).out.mono ?_)); rintro e w9 ⟨rfl, rfl⟩)
        | (go_at_call 37; (with_reducible refine (nan_any _).mono ?_); rintro e w9 ⟨rfl, rfl⟩)
        | (go_at_call 20; (with_reducible refine (awake_any _).mono ?_); rintro e w1 ⟨rfl, hb⟩; have HB := Lib.hid hb; clear hb))
      go_ret
      exact ⟨rfl, HB.out⟩
end Go.Proofs.Ytkafeadgjpglaaa
