/-
  The walks of the document's ahead, Rank and Best.
-/
import Derived.Test.YtkafeadgjpglaaaBest
namespace Go.Proofs.Ytkafeadgjpglaaa
open Go.RowKit

theorem ahead_is {L : List Nat} (h64 : W64 L) (i j : Nat) {x y : Nat} (hx : x = L.getD i 0) (hy : y = L.getD j 0) :
    decide (rankF L i j < 0) = if nanB x = nanB y then (if ordF x y = 0 then decide (i < j) else decide (0 < ordF x y)) else nanB y := by
  rw [Bool.eq_iff_iff, decide_eq_true_iff, rankF_lt h64, ← hx, ← hy]
  cases hnx : nanB x <;> cases hny : nanB y
  · have := kf_num hnx hny
    simp only [if_true]
    by_cases h0 : ordF x y = 0
    · rw [if_pos h0, decide_eq_true_iff]; omega
    · rw [if_neg h0, decide_eq_true_iff]; omega
  · have := kf_nan hny hnx
    simp only [Bool.false_eq_true, if_false]
    constructor
    · intro _; trivial
    · intro _; exact .inl this
  · have := kf_nan hnx hny
    simp only [Bool.true_eq_false, if_false]
    constructor
    · intro h; omega
    · intro h; cases h
  · have h0 : ordF x y = 0 := by
      unfold ordF; rw [nan_rise hnx, nan_rise hny]; unfold intO; rw [if_neg (by omega), if_neg (by omega)]
    have hk : kf x = kf y := by unfold kf; rw [hnx, hny]; simp only [if_true]
    simp only [if_true]
    rw [if_pos h0, decide_eq_true_iff]
    omega

set_option maxRecDepth 100000 in
set_option maxHeartbeats 4000000 in
theorem ahead_any (a : Option Addr) (n c : Nat) (L : List Nat) (i j : Nat) (w : World) (hL : At1 F w a n c L) (h64 : W64 L) (hn : n ≤ 1000000000) (hi : i < n) (hj : j < n) :
    Calls Try.prog 66 #[.slice a n c, .int .i64 i, .int .i64 j] w fun e w' => e = .returned (.bool (decide (rankF L i j < 0))) ∧ Below w.heap.size w w' := by
  obtain ⟨b, off, rfl⟩ := hL.some_ (by omega)
  obtain ⟨x, hx⟩ : ∃ x, x = L.getD i 0 := ⟨_, rfl⟩
  obtain ⟨y, hy⟩ : ∃ y, y = L.getD j 0 := ⟨_, rfl⟩
  have hnI : (n : Int) ≤ 1000000000 := by omega
  have hi0 : (0 : Int) ≤ (i : Int) := by omega
  have hiI : (i : Int) < (n : Int) := by omega
  have hj0 : (0 : Int) ≤ (j : Int) := by omega
  have hjI : (j : Int) < (n : Int) := by omega
  have hcx : w.cell? ⟨b, off + i, none⟩ = some (.float .f64 x) := by rw [hx]; exact hL.cell i hi
  have hcy : w.cell? ⟨b, off + j, none⟩ = some (.float .f64 y) := by rw [hy]; exact hL.cell j hj
  have hcxd : ∀ k, (w.drewN k).cell? ⟨b, off + i, none⟩ = some (.float .f64 x) := fun k => by rw [(below_drewN (Below.refl _ w) k).cell (World.block_lt_of_cell? _ _ hcx)]; exact hcx
  have hcyd : ∀ k, (w.drewN k).cell? ⟨b, off + j, none⟩ = some (.float .f64 y) := fun k => by rw [(below_drewN (Below.refl _ w) k).cell (World.block_lt_of_cell? _ _ hcy)]; exact hcy
  have HA := Lib.hid (ahead_is h64 i j hx hy)
  obtain ⟨s, hs⟩ : ∃ s, s = nanB x := ⟨_, rfl⟩
  obtain ⟨t, ht⟩ : ∃ t, t = nanB y := ⟨_, rfl⟩
  obtain ⟨z, hz⟩ : ∃ z, z = ordF x y := ⟨_, rfl⟩
  have HX := fun W => Lib.hid (refNan_is x s W hs)
  have HY := fun W => Lib.hid (refNan_is y t W ht)
  have HO := fun W => Lib.hid (refOrder_is x y z W (by rw [hx]; exact h64 i) (by rw [hy]; exact h64 j) hz)
  rw [← hs, ← ht, ← hz] at HA
  obtain ⟨q, hq⟩ : ∃ q, q = decide (rankF L i j < 0) := ⟨_, rfl⟩
  rw [← hq] at HA ⊢
  clear hx hy hs ht hz hL h64 hn hi hj hq
  by_cases hst : s = t
  · subst hst
    have hneb : (s != s) = false := by simp
    by_cases hz0 : z = 0
    · subst hz0
      obtain ⟨r, hr⟩ : ∃ r, r = decide ((i : Int) < (j : Int)) := ⟨_, rfl⟩
      have HE := Lib.hid (show q = r by rw [HA.out, if_pos rfl, if_pos rfl, hr]; simp)
      have hr2 := hr.symm
      have hr3 : decide (i < j) = r := by rw [hr]; simp
      clear hr HA
      go_enter Try.func66, Try.ntmps66
      go_wp2
      go_quiet ((go_at_call 56; first | exact Calls.quiet_of_same ((HX _).out.mono fun e w9 h => ⟨h.1, h.2.symm⟩) | exact Calls.quiet_of_same ((HY _).out.mono fun e w9 h => ⟨h.1, h.2.symm⟩)))
      have hbd := Lib.hid (below_drewN (Below.refl w.heap.size w) nq)
      have hcx2 := hcxd nq
      have hcy2 := hcyd nq
      clear hcxd hcyd hcx hcy
      generalize w.drewN nq = W1 at hbd hcx2 hcy2 ⊢
      go_wp2
      go_quiet ((go_at_call 15; exact Calls.quiet_of_same ((HO _).out.mono fun e w9 h => ⟨h.1, h.2.symm⟩)))
      have hbe := Lib.hid (below_drewN hbd.out nq)
      go_wp2
      go_ret
      rw [HE.out]
      exact ⟨rfl, hbe.out⟩
    · have HE := Lib.hid (show q = decide (0 < z) by rw [HA.out, if_pos rfl, if_neg hz0])
      have hzn : (z != 0) = true := by simp [hz0]
      clear HA hz0
      go_enter Try.func66, Try.ntmps66
      go_wp2
      go_quiet ((go_at_call 56; first | exact Calls.quiet_of_same ((HX _).out.mono fun e w9 h => ⟨h.1, h.2.symm⟩) | exact Calls.quiet_of_same ((HY _).out.mono fun e w9 h => ⟨h.1, h.2.symm⟩)))
      have hbd := Lib.hid (below_drewN (Below.refl w.heap.size w) nq)
      have hcx2 := hcxd nq
      have hcy2 := hcyd nq
      clear hcxd hcyd hcx hcy
      generalize w.drewN nq = W1 at hbd hcx2 hcy2 ⊢
      go_wp2
      go_quiet ((go_at_call 15; exact Calls.quiet_of_same ((HO _).out.mono fun e w9 h => ⟨h.1, h.2.symm⟩)))
      have hbe := Lib.hid (below_drewN hbd.out nq)
      go_wp2
      go_ret
      rw [HE.out]
      exact ⟨rfl, hbe.out⟩
  · have HE := Lib.hid (show q = t by rw [HA.out, if_neg hst])
    have hst2 : (s = false ∧ t = true) ∨ (s = true ∧ t = false) := by cases s <;> cases t <;> simp_all
    clear HA hst
    rcases hst2 with ⟨rfl, rfl⟩ | ⟨rfl, rfl⟩
    all_goals
      go_enter Try.func66, Try.ntmps66
      go_wp2
      go_quiet ((go_at_call 56; first | exact Calls.quiet_of_same ((HX _).out.mono fun e w9 h => ⟨h.1, h.2.symm⟩) | exact Calls.quiet_of_same ((HY _).out.mono fun e w9 h => ⟨h.1, h.2.symm⟩)))
      have hbd := Lib.hid (below_drewN (Below.refl w.heap.size w) nq)
      have hcx2 := hcxd nq
      have hcy2 := hcyd nq
      clear hcxd hcyd hcx hcy
      generalize w.drewN nq = W1 at hbd hcx2 hcy2 ⊢
      go_wp2_with (go_at_call 56; (with_reducible refine (HY _).out.mono ?_); rintro e w9 ⟨rfl, rfl⟩)
      go_ret
      rw [HE.out]
      exact ⟨rfl, hbd.out⟩
end Go.Proofs.Ytkafeadgjpglaaa
