/-
  The walk of the document's Best.
-/
import Derived.Test.YtkafeadgjpglaaaRefRank
namespace Go.Proofs.Ytkafeadgjpglaaa
open Go.RowKit

theorem best_unique {L : List Nat} (h64 : W64 L) {n i j : Nat} (hi : IsBest L n i) (hj : IsBest L n j) : i = j := by
  have h1 := hi.2.2 j hj.1
  have h2 := hj.2.2 i hi.1
  rw [rankF_lt h64] at h1 h2
  omega
theorem best_eq {L : List Nat} (h64 : W64 L) {n i : Nat} (hi : IsBest L n i) : bestF L n = (i, true) := by
  rcases bestF_is h64 n with ⟨h1, h2⟩ | ⟨h1, h2⟩
  · have := best_unique h64 hi h2
    rw [this, ← h1]
  · have := h2 i hi.1
    rw [hi.2.1] at this
    cases this
theorem best_none {L : List Nat} (h64 : W64 L) {n : Nat} (h : ∀ i, i < n → ¬ IsBest L n i) : bestF L n = (0, false) := by
  rcases bestF_is h64 n with ⟨h1, h2⟩ | ⟨h1, h2⟩
  · exact absurd h2 (h _ h2.1)
  · exact h1

/-- As far as it goes: no other ahead of it, or it isn't the best. -/
def SoFar (L : List Nat) (n i m : Nat) (f : Bool) : Prop := (f = true ∧ nanB (L.getD i 0) = false ∧ ∀ j, j < m → ¬ rankF L j i < 0) ∨ (f = false ∧ ¬ IsBest L n i)
theorem sofar_zero (L : List Nat) (n i : Nat) (q : Bool) (hq : q = nanB (L.getD i 0)) : SoFar L n i 0 (!q) := by
  cases q
  · exact .inl ⟨rfl, hq.symm, fun j hj => by omega⟩
  · exact .inr ⟨rfl, fun h => by rw [h.2.1] at hq; cases hq⟩
theorem sofar_next {L : List Nat} {n i m : Nat} (h : SoFar L n i m true) (hm : m < n) (r : Bool) (hr : r = decide (rankF L m i < 0)) : SoFar L n i (m + 1) (!r) := by
  rcases h with ⟨_, h1, h2⟩ | ⟨h1, _⟩
  · cases r
    · refine .inl ⟨rfl, h1, fun j hj => ?_⟩
      rcases Nat.lt_or_ge j m with h3 | h3
      · exact h2 j h3
      · obtain rfl : j = m := by omega
        exact of_decide_eq_false hr.symm
    · exact .inr ⟨rfl, fun h => h.2.2 m hm (of_decide_eq_true hr.symm)⟩
  · cases h1
theorem sofar_all {L : List Nat} {n i : Nat} (h : SoFar L n i n true) (hi : i < n) : IsBest L n i := by
  rcases h with ⟨_, h1, h2⟩ | ⟨h1, _⟩
  · exact ⟨hi, h1, h2⟩
  · cases h1
theorem sofar_not {L : List Nat} {n i m : Nat} (h : SoFar L n i m false) : ¬ IsBest L n i := by
  rcases h with ⟨h1, _, _⟩ | ⟨_, h2⟩
  · cases h1
  · exact h2
theorem sofar_num {L : List Nat} {n i m : Nat} (h : SoFar L n i m true) : nanB (L.getD i 0) = false := by
  rcases h with ⟨_, h1, _⟩ | ⟨h1, _⟩
  · exact h1
  · cases h1

set_option maxRecDepth 100000 in
set_option maxHeartbeats 4000000 in
theorem refBest_any (a : Option Addr) (n c : Nat) (L : List Nat) (w : World) (hL : At1 F w a n c L) (h64 : W64 L) (hn : n ≤ 1000000000) : Calls Try.prog 23 #[.slice a n c] w (BestIs (bestF L n).1 (bestF L n).2 w) := by
  have HL := Lib.hid hL
  have H64 := Lib.hid h64
  have hnI : (n : Int) ≤ 1000000000 := by omega
  have hn0 : (0 : Int) ≤ (n : Int) := by omega
  clear hL h64 hn
  go_enter Try.func23, Try.ntmps23
  go_wp2
  go_loopg [4] n (fun g v4 W => ∃ (i : Nat), v4 = .int .i64 i ∧ g + i = n ∧ Below w.heap.size w W ∧ Hid (∀ k, k < i → ¬ IsBest L n k))
  case atStart => exact ⟨0, rfl, rfl, Below.refl _ _, Lib.hid (fun k hk => by omega)⟩
  case round =>
    obtain ⟨i, rfl, hg, hbw, HQ⟩ := hrel
    obtain ⟨wo, rfl⟩ : ∃ wo : World, wo = wr := ⟨_, rfl⟩
    have HG := Lib.hid hg
    have hi0 : (0 : Int) ≤ (i : Int) := by omega
    have hiI : (i : Int) ≤ (n : Int) := by omega
    have HBW := Lib.hid hbw
    by_cases hi : (i : Int) < (n : Int)
    · have HI := Lib.hid (show i < n by omega)
      obtain ⟨b, off, rfl⟩ := HL.out.some_ (by omega)
      obtain ⟨x, hx⟩ : ∃ x, x = L.getD i 0 := ⟨_, rfl⟩
      have hcx : wo.cell? ⟨b, off + i, none⟩ = some (.float .f64 x) := by rw [hx]; exact (HL.out.below hbw).cell i HI.out
      obtain ⟨s, hs⟩ : ∃ s, s = nanB x := ⟨_, rfl⟩
      have HNX := fun W => Lib.hid (refNan_is x s W hs)
      have HX := Lib.hid hx
      have H0 := Lib.hid (sofar_zero L n i s (by rw [← hx]; exact hs))
      clear hg hbw hs hx
      go_wp2_with (go_at_call 56; (with_reducible refine (HNX _).out.mono ?_); rintro e w9 ⟨rfl, rfl⟩)
      clear hcx
      go_loopg [5, 6] n (fun g v5 v6 W => ∃ (m : Nat) (f : Bool), v5 = .bool f ∧ v6 = .int .i64 m ∧ g + m = n ∧ Below w.heap.size w W ∧ Hid (SoFar L n i m f))
      case atStart => exact ⟨0, !s, rfl, rfl, rfl, HBW.out, H0⟩
      case round =>
        clear H0 HNX
        obtain ⟨m, f, rfl, rfl, hg, hbw, HF⟩ := hrel
        have HG2 := Lib.hid hg
        have hm0 : (0 : Int) ≤ (m : Int) := by omega
        have hmI : (m : Int) ≤ (n : Int) := by omega
        have HBI := Lib.hid hbw
        by_cases hm : (m : Int) < (n : Int)
        · rcases f with _ | _
          · have HQN := Lib.hid (show ∀ k, k < i + 1 → ¬ IsBest L n k from fun k hk => by
              rcases Nat.lt_or_ge k i with h | h
              · exact HQ.out k h
              · obtain rfl : k = i := by omega
                exact sofar_not HF.out)
            clear hg hbw
            go_wp2
            go_roundg (n - (i + 1))
            case measure => have := HG.out; have := HI.out; omega
            case rel => exact ⟨i + 1, by go_num, by have := HI.out; omega, HBI.out, HQN⟩
          · have HM := Lib.hid (show m < n by omega)
            obtain ⟨y, hy⟩ : ∃ y, y = L.getD m 0 := ⟨_, rfl⟩
            have hcx : wr.cell? ⟨b, off + i, none⟩ = some (.float .f64 x) := by rw [HX.out]; exact (HL.out.below hbw).cell i HI.out
            have hcy : wr.cell? ⟨b, off + m, none⟩ = some (.float .f64 y) := by rw [hy]; exact (HL.out.below hbw).cell m HM.out
            obtain ⟨t, ht⟩ : ∃ t, t = nanB y := ⟨_, rfl⟩
            obtain ⟨z, hz⟩ : ∃ z, z = ordF y x := ⟨_, rfl⟩
            have HNY := fun W => Lib.hid (refNan_is y t W ht)
            have HO := fun W => Lib.hid (refOrder_is y x z W (by rw [hy]; exact H64.out m) (by rw [HX.out]; exact H64.out i) hz)
            obtain ⟨r, hr⟩ : ∃ r, r = decide (rankF L m i < 0) := ⟨_, rfl⟩
            have HRR := Lib.hid (show r = if t = false then (if z = 0 then decide (m < i) else decide (0 < z)) else false by
              rw [hr, ahead_is H64.out m i hy HX.out, ← hz, ← ht, HX.out, sofar_num HF.out])
            have HN := Lib.hid (sofar_next HF.out HM.out r hr)
            clear hg hbw hy ht hz hr
            rcases t with _ | _
            · by_cases hz0 : z = 0
              · subst hz0
                by_cases hmi : m < i
                · obtain rfl : r = true := by rw [HRR.out, if_pos rfl, if_pos rfl, decide_eq_true hmi]
                  have hd1 : decide ((i : Int) ≤ (m : Int)) = false := decide_eq_false (by omega)
                  have hd2 : decide (i ≤ m) = false := decide_eq_false (by omega)
                  have hd3 : ¬ i ≤ m := by omega
                  clear HRR hmi
                  go_wp2
                  go_quiet (first
                    | (go_at_call 56; exact Calls.quiet_of_same ((HNY _).out.mono fun e w9 h => ⟨h.1, h.2.symm⟩))
                    | (go_at_call 15; exact Calls.quiet_of_same ((HO _).out.mono fun e w9 h => ⟨h.1, h.2.symm⟩)))
                  have hbd := below_drewN HBI.out nq
                  go_wp2
                  go_roundg (n - (m + 1))
                  case measure => have := HG2.out; have := HM.out; omega
                  case rel => exact ⟨m + 1, false, rfl, by go_num, by have := HM.out; omega, hbd, HN⟩
                · obtain rfl : r = false := by rw [HRR.out, if_pos rfl, if_pos rfl, decide_eq_false hmi]
                  have hd1 : (i : Int) ≤ (m : Int) := by omega
                  have hd2 : i ≤ m := by omega
                  clear HRR hmi
                  go_wp2
                  go_quiet (first
                    | (go_at_call 56; exact Calls.quiet_of_same ((HNY _).out.mono fun e w9 h => ⟨h.1, h.2.symm⟩))
                    | (go_at_call 15; exact Calls.quiet_of_same ((HO _).out.mono fun e w9 h => ⟨h.1, h.2.symm⟩)))
                  have hbd := below_drewN HBI.out nq
                  go_wp2
                  go_roundg (n - (m + 1))
                  case measure => have := HG2.out; have := HM.out; omega
                  case rel => exact ⟨m + 1, true, rfl, by go_num, by have := HM.out; omega, hbd, HN⟩
              · by_cases hz1 : 0 < z
                · obtain rfl : r = true := by rw [HRR.out, if_pos rfl, if_neg hz0, decide_eq_true hz1]
                  have hd1 : decide (z < 0) = false := decide_eq_false (by omega)
                  have hd2 : (z == 0) = false := by simp [hz0]
                  clear HRR hz0
                  go_wp2
                  go_quiet (first
                    | (go_at_call 56; exact Calls.quiet_of_same ((HNY _).out.mono fun e w9 h => ⟨h.1, h.2.symm⟩))
                    | (go_at_call 15; exact Calls.quiet_of_same ((HO _).out.mono fun e w9 h => ⟨h.1, h.2.symm⟩)))
                  have hbd := below_drewN HBI.out nq
                  go_wp2
                  go_roundg (n - (m + 1))
                  case measure => have := HG2.out; have := HM.out; omega
                  case rel => exact ⟨m + 1, false, rfl, by go_num, by have := HM.out; omega, hbd, HN⟩
                · obtain rfl : r = false := by rw [HRR.out, if_pos rfl, if_neg hz0, decide_eq_false hz1]
                  have hd1 : z < 0 := by omega
                  clear HRR hz0 hz1
                  go_wp2
                  go_quiet (first
                    | (go_at_call 56; exact Calls.quiet_of_same ((HNY _).out.mono fun e w9 h => ⟨h.1, h.2.symm⟩))
                    | (go_at_call 15; exact Calls.quiet_of_same ((HO _).out.mono fun e w9 h => ⟨h.1, h.2.symm⟩)))
                  have hbd := below_drewN HBI.out nq
                  go_wp2
                  go_roundg (n - (m + 1))
                  case measure => have := HG2.out; have := HM.out; omega
                  case rel => exact ⟨m + 1, true, rfl, by go_num, by have := HM.out; omega, hbd, HN⟩
            · obtain rfl : r = false := by rw [HRR.out, if_neg (by simp)]
              clear HRR
              go_wp2
              go_quiet (first
                | (go_at_call 56; exact Calls.quiet_of_same ((HNY _).out.mono fun e w9 h => ⟨h.1, h.2.symm⟩)))
              have hbd := below_drewN HBI.out nq
              go_wp2
              go_roundg (n - (m + 1))
              case measure => have := HG2.out; have := HM.out; omega
              case rel => exact ⟨m + 1, true, rfl, by go_num, by have := HM.out; omega, hbd, HN⟩
        · have hmn : m = n := by omega
          subst hmn
          clear hg hbw
          rcases f with _ | _
          · have HQN := Lib.hid (show ∀ k, k < i + 1 → ¬ IsBest L m k from fun k hk => by
              rcases Nat.lt_or_ge k i with h | h
              · exact HQ.out k h
              · obtain rfl : k = i := by omega
                exact sofar_not HF.out)
            go_wp2
            go_roundg (m - (i + 1))
            case measure => have := HG.out; have := HI.out; omega
            case rel => exact ⟨i + 1, by go_num, by have := HI.out; omega, HBI.out, HQN⟩
          · have HE := Lib.hid (best_eq H64.out (sofar_all HF.out HI.out))
            go_wp2
            go_ret2
            rw [HE.out]
            exact ⟨rfl, HBI.out⟩
    · have hjn : i = n := by omega
      subst hjn
      have HE := Lib.hid (best_none H64.out HQ.out)
      clear hg
      go_wp2
      go_ret2
      rw [HE.out]
      exact ⟨rfl, hbw⟩
end Go.Proofs.Ytkafeadgjpglaaa
