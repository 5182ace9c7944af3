/-
  The walk of the program's Best; what it has to do with the ranks.
-/
import Derived.Test.YtkafeadgjpglaaaMeans
namespace Go.Proofs.Ytkafeadgjpglaaa
open Go.RowKit

/-- The best of the first so many: its place, and whether there is one. -/
def bestF (L : List Nat) : Nat → Nat × Bool
  | 0 => (0, false)
  | j + 1 => if !nanB (L.getD j 0) && (!(bestF L j).2 || decide (0 < ordF (L.getD j 0) (L.getD (bestF L j).1 0))) then (j, true) else bestF L j
theorem bestF_le (L : List Nat) : ∀ j, (bestF L j).1 ≤ j
  | 0 => Nat.le_refl _
  | j + 1 => by
    unfold bestF
    split
    · exact Nat.le_succ _
    · exact Nat.le_succ_of_le (bestF_le L j)
/-- What Best answers. -/
def BestIs (b : Nat) (f : Bool) (w : World) (e : Ending) (w' : World) : Prop := e = .returned (.tuple #[.int .i64 (b : Int), .bool f]) ∧ Below w.heap.size w w'

set_option maxRecDepth 100000 in
set_option maxHeartbeats 2000000 in
theorem best_any (a : Option Addr) (n c : Nat) (L : List Nat) (w : World) (hL : At1 F w a n c L) (h64 : W64 L) (hn : n ≤ 1000000000) : Calls Try.prog 22 #[.slice a n c] w (BestIs (bestF L n).1 (bestF L n).2 w) := by
  have HL := Lib.hid hL
  have H64 := Lib.hid h64
  have hnI : (n : Int) ≤ 1000000000 := by omega
  clear hL h64 hn
  go_enter Try.func22, Try.ntmps22
  go_wp2
  go_loopg [4, 5, 10] n (fun g v4 v5 v10 W => ∃ (j b : Nat) (f : Bool), v4 = .int .i64 b ∧ v5 = .bool f ∧ v10 = .int .i64 j ∧ g + j = n ∧ Below w.heap.size w W ∧ Hid (bestF L j = (b, f)))
  case atStart => exact ⟨0, 0, false, rfl, rfl, rfl, rfl, Below.refl _ _, Lib.hid rfl⟩
  case round =>
    obtain ⟨j, b, f, rfl, rfl, rfl, hg, hbw, HB⟩ := hrel
    have HG := Lib.hid hg
    have hj0 : (0 : Int) ≤ (j : Int) := by omega
    have hjI : (j : Int) ≤ (n : Int) := by omega
    have HBW := Lib.hid hbw
    by_cases hj : (j : Int) < (n : Int)
    · have hjn : j < n := by omega
      have HJ := Lib.hid hjn
      obtain ⟨bb, off, rfl⟩ := HL.out.some_ (by omega)
      obtain ⟨x, hx⟩ : ∃ x, x = L.getD j 0 := ⟨_, rfl⟩
      obtain ⟨y, hy⟩ : ∃ y, y = L.getD b 0 := ⟨_, rfl⟩
      have hble : b ≤ j := by have := bestF_le L j; rw [HB.out] at this; exact this
      have hb0 : (0 : Int) ≤ (b : Int) := by omega
      have hbn : (b : Int) < (n : Int) := by omega
      have hc : wr.cell? ⟨bb, off + j, none⟩ = some (.float .f64 x) := by rw [hx]; exact (HL.out.below hbw).cell j hjn
      have hcb : wr.cell? ⟨bb, off + b, none⟩ = some (.float .f64 y) := by rw [hy]; exact (HL.out.below hbw).cell b (by omega)
      obtain ⟨q, hq⟩ : ∃ q, q = nanB x := ⟨_, rfl⟩
      obtain ⟨z, hz⟩ : ∃ z, z = ordF x y := ⟨_, rfl⟩
      have HN := fun W => Lib.hid (isNaN_is x q W hq)
      have HO := fun W => Lib.hid (order_is x y z W (by rw [hx]; exact H64.out j) (by rw [hy]; exact H64.out b) hz)
      have HX := Lib.hid (show bestF L (j + 1) = if !q && (!f || decide (0 < z)) then (j, true) else (b, f) by
        show (if !nanB (L.getD j 0) && (!(bestF L j).2 || decide (0 < ordF (L.getD j 0) (L.getD (bestF L j).1 0))) then (j, true) else bestF L j) = _
        rw [HB.out, hz, hq, hx, hy])
      clear hg hx hy hq hz hbw hble
      rcases q with _ | _
      · rcases f with _ | _
        · have HE := Lib.hid (show bestF L (j + 1) = (j, true) from HX.out)
          go_wp2_with (go_at_call 35; (with_reducible refine (HN _).out.mono ?_); rintro e w9 ⟨rfl, rfl⟩)
          go_roundg (n - (j + 1))
          case measure => have := HG.out; have := HJ.out; omega
          case rel => exact ⟨j + 1, j, true, rfl, rfl, by go_num, by have := HJ.out; omega, HBW.out, HE⟩
        · by_cases hz0 : 0 < z
          · have HE := Lib.hid (show bestF L (j + 1) = (j, true) by rw [HX.out, decide_eq_true hz0]; rfl)
            go_wp2_with (first
              | (go_at_call 35; (with_reducible refine (HN _).out.mono ?_); rintro e w9 ⟨rfl, rfl⟩)
              | (go_at_call 21; (with_reducible refine (HO _).out.mono ?_); rintro e w9 ⟨rfl, rfl⟩))
            go_roundg (n - (j + 1))
            case measure => have := HG.out; have := HJ.out; omega
            case rel => exact ⟨j + 1, j, true, rfl, rfl, by go_num, by have := HJ.out; omega, HBW.out, HE⟩
          · have HE := Lib.hid (show bestF L (j + 1) = (b, true) by rw [HX.out, decide_eq_false hz0]; rfl)
            have hzd : decide (0 < z) = false := decide_eq_false hz0
            go_wp2_with (first
              | (go_at_call 35; (with_reducible refine (HN _).out.mono ?_); rintro e w9 ⟨rfl, rfl⟩)
              | (go_at_call 21; (with_reducible refine (HO _).out.mono ?_); rintro e w9 ⟨rfl, rfl⟩))
            go_roundg (n - (j + 1))
            case measure => have := HG.out; have := HJ.out; omega
            case rel => exact ⟨j + 1, b, true, rfl, rfl, by go_num, by have := HJ.out; omega, HBW.out, HE⟩
      · have HE := Lib.hid (show bestF L (j + 1) = (b, f) from HX.out)
        go_wp2_with (go_at_call 35; (with_reducible refine (HN _).out.mono ?_); rintro e w9 ⟨rfl, rfl⟩)
        go_roundg (n - (j + 1))
        case measure => have := HG.out; have := HJ.out; omega
        case rel => exact ⟨j + 1, b, f, rfl, rfl, by go_num, by have := HJ.out; omega, HBW.out, HE⟩
    · have hjn : j = n := by omega
      subst hjn
      have HE := Lib.hid (show b = (bestF L j).1 ∧ f = (bestF L j).2 by rw [HB.out]; exact ⟨rfl, rfl⟩)
      clear hg
      go_wp2
      go_ret2
      rw [← HE.out.1, ← HE.out.2]
      exact ⟨rfl, hbw⟩

/-! ### Ranks and the best -/
/-- How many of the first so many are ranked ahead of a place. -/
def cntF (L : List Nat) (m i : Nat) : Nat := (List.range m).countP fun k => decide (rankF L k i < 0)
theorem cntF_next (L : List Nat) (m i : Nat) : cntF L (m + 1) i = cntF L m i + (if rankF L m i < 0 then 1 else 0) := by
  unfold cntF
  rw [List.range_succ, List.countP_append]
  simp [List.countP_cons]
theorem cnt_at {L R : List Nat} (h64 : W64 L) (h : Ranked L R) {p : Nat} (hp : p < R.length) : cntF L L.length (R.getD p 0) = p := by
  unfold cntF
  rw [← h.1.countP_eq]
  have e : R = R.take p ++ R.getD p 0 :: R.drop (p + 1) := by
    have := List.take_append_drop p R
    rw [List.drop_eq_getElem_cons hp] at this
    simp only [List.getD_eq_getElem?_getD, List.getElem?_eq_getElem hp, Option.getD_some]
    exact this.symm
  have hw := h.2
  rw [e] at hw
  rw [List.pairwise_append] at hw
  obtain ⟨_, h2, h3⟩ := hw
  rw [List.pairwise_cons] at h2
  generalize R.getD p 0 = x at e h2 h3 ⊢
  rw [e, List.countP_append, List.countP_cons]
  have e1 : (R.take p).countP (fun k => decide (rankF L k x < 0)) = p := by
    rw [List.countP_eq_length.2 (fun y hy => decide_eq_true (h3 y hy x (List.mem_cons_self ..)))]
    rw [List.length_take]; omega
  have e2 : (R.drop (p + 1)).countP (fun k => decide (rankF L k x < 0)) = 0 := by
    rw [List.countP_eq_zero]
    intro y hy
    have := h2.1 y hy
    rw [rankF_lt h64] at this
    rw [decide_eq_true_iff, rankF_lt h64]
    omega
  have e3 : ¬ rankF L x x < 0 := by rw [rankF_lt h64]; omega
  rw [e1, e2]
  simp [e3]
#print axioms cnt_at

/-- The best is the one no other is ranked ahead of. -/
def IsBest (L : List Nat) (n b : Nat) : Prop := b < n ∧ nanB (L.getD b 0) = false ∧ ∀ j, j < n → ¬ rankF L j b < 0
theorem kf_num {x y : Nat} (hx : nanB x = false) (hy : nanB y = false) : (0 < ordF x y ↔ kf x < kf y) ∧ (ordF x y = 0 ↔ kf x = kf y) := by
  unfold ordF kf intO
  rw [hx, hy]
  simp only [Bool.false_eq_true, if_false]
  split
  · omega
  · split <;> omega
theorem kf_nan {x y : Nat} (hx : nanB x = true) (hy : nanB y = false) : kf y < kf x := by
  unfold kf; rw [hx, hy]; simp only [if_true, Bool.false_eq_true, if_false]; omega
theorem bestF_is {L : List Nat} (h64 : W64 L) : ∀ n, ((bestF L n).2 = true ∧ IsBest L n (bestF L n).1) ∨ (bestF L n = (0, false) ∧ ∀ j, j < n → nanB (L.getD j 0) = true)
  | 0 => .inr ⟨rfl, fun j hj => by omega⟩
  | n + 1 => by
    have ih := bestF_is h64 n
    rw [show bestF L (n + 1) = (if !nanB (L.getD n 0) && (!(bestF L n).2 || decide (0 < ordF (L.getD n 0) (L.getD (bestF L n).1 0))) then (n, true) else bestF L n) from rfl]
    cases hq : nanB (L.getD n 0)
    · rcases ih with ⟨h1, h2, h3, h4⟩ | ⟨h1, h2⟩
      · rw [h1]
        by_cases hz : 0 < ordF (L.getD n 0) (L.getD (bestF L n).1 0)
        · rw [if_pos (by rw [decide_eq_true hz]; rfl)]
          refine .inl ⟨rfl, by omega, hq, fun j hj => ?_⟩
          have hk := (kf_num hq h3).1.1 hz
          rcases Nat.lt_or_ge j n with hjn | hjn
          · have := h4 j hjn
            rw [rankF_lt h64] at this ⊢
            simp only
            omega
          · obtain rfl : j = n := by omega
            rw [rankF_lt h64]; simp only; omega
        · rw [if_neg (by rw [decide_eq_false hz]; simp)]
          refine .inl ⟨h1, by omega, h3, fun j hj => ?_⟩
          rcases Nat.lt_or_ge j n with hjn | hjn
          · exact h4 j hjn
          · obtain rfl : j = n := by omega
            rw [rankF_lt h64]
            have := (kf_num hq h3).1
            omega
      · rw [h1]
        rw [if_pos (by rfl)]
        refine .inl ⟨rfl, by omega, hq, fun j hj => ?_⟩
        rcases Nat.lt_or_ge j n with hjn | hjn
        · have := kf_nan (h2 j hjn) hq
          rw [rankF_lt h64]; simp only; omega
        · obtain rfl : j = n := by omega
          rw [rankF_lt h64]; simp only; omega
    · rw [if_neg (by simp)]
      rcases ih with ⟨h1, h2, h3, h4⟩ | ⟨h1, h2⟩
      · refine .inl ⟨h1, by omega, h3, fun j hj => ?_⟩
        rcases Nat.lt_or_ge j n with hjn | hjn
        · exact h4 j hjn
        · obtain rfl : j = n := by omega
          have := kf_nan hq h3
          rw [rankF_lt h64]; omega
      · refine .inr ⟨h1, fun j hj => ?_⟩
        rcases Nat.lt_or_ge j n with hjn | hjn
        · exact h2 j hjn
        · obtain rfl : j = n := by omega
          exact hq
/-- The best stands first. -/
theorem best_first {L R : List Nat} (h64 : W64 L) (h : Ranked L R) {b : Nat} (hb : IsBest L L.length b) : R.getD 0 0 = b := by
  have hm : b ∈ R := h.1.mem_iff.2 (List.mem_range.2 hb.1)
  obtain ⟨p, hp, he⟩ := List.mem_iff_getElem.1 hm
  have e : R.getD p 0 = b := by simp [hp, he]
  have h1 := cnt_at h64 h hp
  rw [e] at h1
  have h2 : cntF L L.length b = 0 := by
    unfold cntF
    rw [List.countP_eq_zero]
    intro j hj
    rw [decide_eq_true_iff]
    exact hb.2.2 j (List.mem_range.1 hj)
  have : p = 0 := by omega
  subst this
  exact e
end Go.Proofs.Ytkafeadgjpglaaa
