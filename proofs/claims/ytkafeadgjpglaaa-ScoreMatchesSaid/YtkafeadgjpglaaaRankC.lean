/-
  The walks of further, of cmp at int, and of Rank's comparing closure.
-/
import Derived.Test.YtkafeadgjpglaaaOne
import Derived.Test.YtkafeadgjpglaaaFltOps
import Derived.Deep.RegionHeld
namespace Go.Proofs.Ytkafeadgjpglaaa
open Go.RowKit

theorem cmpInt_any (a b : Int) (w : World) : Calls Try.prog 65 #[.int .i64 a, .int .i64 b] w fun e w' => e = .returned (.int .i64 (intO a b)) ∧ w = w' := by
  by_cases h1 : a < b
  · have HE := Lib.hid (show intO a b = -1 by unfold intO; rw [if_pos h1])
    go_enter Try.func65, Try.ntmps65
    go_wp2
    go_ret
    exact ⟨by rw [HE.out]; rfl, rfl⟩
  · by_cases h2 : b < a
    · have HE := Lib.hid (show intO a b = 1 by unfold intO; rw [if_neg h1, if_pos h2])
      have d1 : decide (a < b) = false := decide_eq_false h1
      clear h1
      go_enter Try.func65, Try.ntmps65
      go_wp2
      go_ret
      exact ⟨by rw [HE.out]; rfl, rfl⟩
    · have HE := Lib.hid (show intO a b = 0 by unfold intO; rw [if_neg h1, if_neg h2])
      have d1 : decide (a < b) = false := decide_eq_false h1
      have d2 : decide (b < a) = false := decide_eq_false h2
      clear h1 h2
      go_enter Try.func65, Try.ntmps65
      go_wp2
      go_ret
      exact ⟨by rw [HE.out]; rfl, rfl⟩
theorem cmpInt_is (a b z : Int) (w : World) (hz : z = intO a b) : Calls Try.prog 65 #[.int .i64 a, .int .i64 b] w fun e w' => e = .returned (.int .i64 z) ∧ w = w' := by
  subst hz; exact cmpInt_any a b w

/-- The first of two that is not 0. -/
def or2F (x y : Int) : Int := if x ≠ 0 then x else y
set_option maxRecDepth 100000 in
set_option maxHeartbeats 400000 in
theorem or2_any (g : Nat) (x y : Int) (w : World) (h0 : w.cell? ⟨g, 0, none⟩ = some (.int .i64 x)) (h1 : w.cell? ⟨g, 1, none⟩ = some (.int .i64 y)) :
    Calls Try.prog 63 #[.slice (some ⟨g, 0, none⟩) 2 2] w fun e w' => e = .returned (.int .i64 (or2F x y)) ∧ w = w' := by
  by_cases hx : x = 0
  · have HE := Lib.hid (show or2F x y = y by unfold or2F; rw [if_neg (by simp [hx])])
    have dx : (x != 0) = false := by simp [hx]
    clear hx
    by_cases hz : y = 0
    · have dz : (y != 0) = false := by simp [hz]
      have HZ := Lib.hid hz
      clear hz
      go_enter Try.func63, Try.ntmps63
      go_wp2
      go_loopg [8] 2 (fun g' v8 W => ∃ j : Nat, w = W ∧ v8 = .int .i64 j ∧ g' + j = 2)
      case atStart => exact ⟨0, rfl, rfl, rfl⟩
      case round =>
        obtain ⟨j, rfl, rfl, hg⟩ := hrel
        have hc : j = 0 ∨ j = 1 ∨ j = 2 := by omega
        rcases hc with rfl | rfl | rfl
        · go_wp2
          go_roundg 1
          case measure => omega
          case rel => exact ⟨1, rfl, rfl, rfl⟩
        · go_wp2
          go_roundg 0
          case measure => omega
          case rel => exact ⟨2, rfl, rfl, rfl⟩
        · go_wp2
          go_ret
          exact ⟨by rw [HE.out, HZ.out]; rfl, rfl⟩
    · have dz : (y != 0) = true := by simpa using hz
      clear hz
      go_enter Try.func63, Try.ntmps63
      go_wp2
      go_loopg [8] 2 (fun g' v8 W => ∃ j : Nat, w = W ∧ v8 = .int .i64 j ∧ g' + j = 2 ∧ j ≤ 1)
      case atStart => exact ⟨0, rfl, rfl, rfl, by omega⟩
      case round =>
        obtain ⟨j, rfl, rfl, hg, hj2⟩ := hrel
        have hc : j = 0 ∨ j = 1 := by omega
        rcases hc with rfl | rfl
        · go_wp2
          go_roundg 1
          case measure => omega
          case rel => exact ⟨1, rfl, rfl, rfl, by omega⟩
        · go_wp2
          go_ret
          exact ⟨by rw [HE.out]; rfl, rfl⟩
  · have HE := Lib.hid (show or2F x y = x by unfold or2F; rw [if_pos hx])
    have dx : (x != 0) = true := by simpa using hx
    clear hx
    go_enter Try.func63, Try.ntmps63
    go_wp2
    go_loopg [8] 2 (fun g' v8 W => ∃ j : Nat, w = W ∧ v8 = .int .i64 j ∧ g' + j = 2 ∧ j ≤ 0)
    case atStart => exact ⟨0, rfl, rfl, rfl, by omega⟩
    case round =>
      obtain ⟨j, rfl, rfl, hg, hj2⟩ := hrel
      have hc : j = 0 := by omega
      subst hc
      go_wp2
      go_ret
      exact ⟨by rw [HE.out]; rfl, rfl⟩
#print axioms or2_any

/-- Which of two is ranked ahead: the greater one; no number behind all. -/
def furF (x y : Nat) : Int := if nanB x = nanB y then ordF y x else ordF x y
theorem further_is (x y : Nat) (f : Int) (w : World) (hx : x < 18446744073709551616) (hy : y < 18446744073709551616) (hf : f = furF x y) :
    Calls Try.prog 64 #[.float .f64 x, .float .f64 y] w fun e w' => e = .returned (.int .i64 f) ∧ w = w' := by
  obtain ⟨p, hp⟩ : ∃ p, p = nanB x := ⟨_, rfl⟩
  obtain ⟨q, hq⟩ : ∃ q, q = nanB y := ⟨_, rfl⟩
  obtain ⟨s, hs⟩ : ∃ s, s = ordF x y := ⟨_, rfl⟩
  obtain ⟨t, ht⟩ : ∃ t, t = ordF y x := ⟨_, rfl⟩
  have HE := Lib.hid (show f = if p = q then t else s by rw [hf, hp, hq, hs, ht]; rfl)
  have HP := fun W => Lib.hid (isNaN_is x p W hp)
  have HQ := fun W => Lib.hid (isNaN_is y q W hq)
  have HS := fun W => Lib.hid (order_is x y s W hx hy hs)
  have HT := fun W => Lib.hid (order_is y x t W hy hx ht)
  clear hx hy hf hp hq hs ht
  rcases p with _ | _ <;> rcases q with _ | _
  all_goals
    go_enter Try.func64, Try.ntmps64
    go_wp2_with (first
      | (go_at_call 35; (first | (with_reducible refine (HP _).out.mono ?_) | (with_reducible refine (HQ _).out.mono ?_)); rintro e w' ⟨rfl, rfl⟩)
      | (go_at_call 21; (first | (with_reducible refine (HS _).out.mono ?_) | (with_reducible refine (HT _).out.mono ?_)); rintro e w' ⟨rfl, rfl⟩))
    go_ret
    exact ⟨by rw [HE.out]; rfl, rfl⟩
#print axioms further_is

/-- Which of two places is ranked ahead. -/
def rankF (L : List Nat) (i j : Nat) : Int := or2F (furF (L.getD i 0) (L.getD j 0)) (intO i j)
theorem cells2 (w : World) (x y : Int) : (w.alloc (.cells #[.int .i64 x, .int .i64 y] 3)).cell? ⟨w.heap.size, 0, none⟩ = some (.int .i64 x) ∧ (w.alloc (.cells #[.int .i64 x, .int .i64 y] 3)).cell? ⟨w.heap.size, 1, none⟩ = some (.int .i64 y) := ⟨by simp, by simp⟩

/-- Floats' bits. -/
def W64 (L : List Nat) : Prop := ∀ i, L.getD i 0 < 18446744073709551616

set_option maxRecDepth 100000 in
set_option maxHeartbeats 2000000 in
theorem rankC_any (g1 : Nat) (b off n c : Nat) (L : List Nat) (i j : Nat) (W : World) (hcell : W.cell? ⟨g1, 0, none⟩ = some (.slice (some ⟨b, off, none⟩) n c)) (hL : At1 F W (some ⟨b, off, none⟩) n c L) (h64 : W64 L) (hi : i < n) (hj : j < n) :
    Calls Try.prog 62 #[.int .i64 i, .int .i64 j, .pointer (some ⟨g1, 0, none⟩)] W fun e w' => e = .returned (.int .i64 (rankF L i j)) ∧ ∃ o, w' = W.drew.alloc o := by
  obtain ⟨x, hx⟩ : ∃ x, x = L.getD i 0 := ⟨_, rfl⟩
  obtain ⟨y, hy⟩ : ∃ y, y = L.getD j 0 := ⟨_, rfl⟩
  have HCX := Lib.hid (show W.cell? ⟨b, off + i, none⟩ = some (.float .f64 x) by rw [hx]; exact hL.cell i hi)
  have HCY := Lib.hid (show W.cell? ⟨b, off + j, none⟩ = some (.float .f64 y) by rw [hy]; exact hL.cell j hj)
  have HC := Lib.hid hcell
  have HG := Lib.hid (show g1 < W.heap.size from World.block_lt_of_cell? _ _ hcell)
  have HBB := Lib.hid (show b < W.heap.size from World.block_lt_of_cell? _ _ HCX.out)
  have HX := Lib.hid (show x < 18446744073709551616 by rw [hx]; exact h64 i)
  have HY := Lib.hid (show y < 18446744073709551616 by rw [hy]; exact h64 j)
  obtain ⟨f, hf⟩ : ∃ f, f = furF x y := ⟨_, rfl⟩
  obtain ⟨g, hg⟩ : ∃ g, g = intO i j := ⟨_, rfl⟩
  have HF := Lib.hid hf
  have HI := Lib.hid hg
  have HE := Lib.hid (show or2F f g = rankF L i j by rw [hf, hg, hx, hy]; rfl)
  have i1 : (i : Int) < (n : Int) := by omega
  have i2 : (0 : Int) ≤ (i : Int) := by omega
  have j1 : (j : Int) < (n : Int) := by omega
  have j2 : (0 : Int) ≤ (j : Int) := by omega
  clear hcell hL h64 hx hy hf hg
  go_enter Try.func62, Try.ntmps62
  go_wp2
  have hS0 : Below W.heap.size W W.drew := (Below.refl _ _).drew
  refine wp_region_held_drew (S := fun W' => Below W.heap.size W W') (by kernel_rfl) hS0 (fun hHeld => ?_)
  refine wpAnyH_take (i := 0) (oi := ⟨some 6, .load 29 (.tmp 2), _, _, _, _⟩) (v := (.slice (some ⟨b, off, none⟩) n c)) rfl (by kernel_rfl) (by kernel_rfl) (by kernel_rfl) (fun _ _ _ h => h) (Or.inl ⟨by rfl, fun W hW => by have hcell := ((hW.cell (p := ⟨g1, 0, none⟩) HG.out).trans HC.out); go_simp⟩) (by assumption) ?_
  simp only [Act.put, List.setIfInBounds_toArray, List.set_cons_zero, List.set_cons_succ]
  refine wpAnyH_take (i := 1) (oi := ⟨some 7, .move (.tmp 0), _, _, _, _⟩) (v := (.int .i64 (i : Int))) rfl (by kernel_rfl) (by kernel_rfl) (by kernel_rfl) (fun _ _ _ h => h) (Or.inl ⟨by rfl, fun W hW => by go_simp⟩) (by assumption) ?_
  simp only [Act.put, List.setIfInBounds_toArray, List.set_cons_zero, List.set_cons_succ]
  refine wpAnyH_take (i := 2) (oi := ⟨some 8, .indexAddr 29 (.tmp 6) (.tmp 7), _, _, _, _⟩) (v := (.pointer (some ⟨b, off + i, none⟩))) rfl (by kernel_rfl) (by kernel_rfl) (by kernel_rfl) (fun _ _ _ h => h) (Or.inl ⟨by rfl, fun W hW => by go_simp⟩) (by assumption) ?_
  simp only [Act.put, List.setIfInBounds_toArray, List.set_cons_zero, List.set_cons_succ]
  refine wpAnyH_take (i := 3) (oi := ⟨some 9, .load 23 (.tmp 8), _, _, _, _⟩) (v := (.float .f64 x)) rfl (by kernel_rfl) (by kernel_rfl) (by kernel_rfl) (fun _ _ _ h => h) (Or.inl ⟨by rfl, fun W hW => by have hcell := ((hW.cell (p := ⟨b, off + i, none⟩) HBB.out).trans HCX.out); go_simp⟩) (by assumption) ?_
  simp only [Act.put, List.setIfInBounds_toArray, List.set_cons_zero, List.set_cons_succ]
  refine wpAnyH_take (i := 4) (oi := ⟨some 10, .load 29 (.tmp 2), _, _, _, _⟩) (v := (.slice (some ⟨b, off, none⟩) n c)) rfl (by kernel_rfl) (by kernel_rfl) (by kernel_rfl) (fun _ _ _ h => h) (Or.inl ⟨by rfl, fun W hW => by have hcell := ((hW.cell (p := ⟨g1, 0, none⟩) HG.out).trans HC.out); go_simp⟩) (by assumption) ?_
  simp only [Act.put, List.setIfInBounds_toArray, List.set_cons_zero, List.set_cons_succ]
  refine wpAnyH_take (i := 5) (oi := ⟨some 11, .move (.tmp 1), _, _, _, _⟩) (v := (.int .i64 (j : Int))) rfl (by kernel_rfl) (by kernel_rfl) (by kernel_rfl) (fun _ _ _ h => h) (Or.inl ⟨by rfl, fun W hW => by go_simp⟩) (by assumption) ?_
  simp only [Act.put, List.setIfInBounds_toArray, List.set_cons_zero, List.set_cons_succ]
  refine wpAnyH_take (i := 6) (oi := ⟨some 12, .indexAddr 29 (.tmp 10) (.tmp 11), _, _, _, _⟩) (v := (.pointer (some ⟨b, off + j, none⟩))) rfl (by kernel_rfl) (by kernel_rfl) (by kernel_rfl) (fun _ _ _ h => h) (Or.inl ⟨by rfl, fun W hW => by go_simp⟩) (by assumption) ?_
  simp only [Act.put, List.setIfInBounds_toArray, List.set_cons_zero, List.set_cons_succ]
  refine wpAnyH_take (i := 7) (oi := ⟨some 13, .load 23 (.tmp 12), _, _, _, _⟩) (v := (.float .f64 y)) rfl (by kernel_rfl) (by kernel_rfl) (by kernel_rfl) (fun _ _ _ h => h) (Or.inl ⟨by rfl, fun W hW => by have hcell := ((hW.cell (p := ⟨b, off + j, none⟩) HBB.out).trans HCY.out); go_simp⟩) (by assumption) ?_
  simp only [Act.put, List.setIfInBounds_toArray, List.set_cons_zero, List.set_cons_succ]
  refine wpAnyH_take (i := 9) (oi := ⟨some 15, .move (.tmp 0), _, _, _, _⟩) (v := (.int .i64 (i : Int))) rfl (by kernel_rfl) (by kernel_rfl) (by kernel_rfl) (fun _ _ _ h => h) (Or.inl ⟨by rfl, fun W hW => by go_simp⟩) (by assumption) ?_
  simp only [Act.put, List.setIfInBounds_toArray, List.set_cons_zero, List.set_cons_succ]
  refine wpAnyH_take (i := 10) (oi := ⟨some 16, .move (.tmp 1), _, _, _, _⟩) (v := (.int .i64 (j : Int))) rfl (by kernel_rfl) (by kernel_rfl) (by kernel_rfl) (fun _ _ _ h => h) (Or.inl ⟨by rfl, fun W hW => by go_simp⟩) (by assumption) ?_
  simp only [Act.put, List.setIfInBounds_toArray, List.set_cons_zero, List.set_cons_succ]
  refine wpAnyH_ready (rs := [8]) (by kernel_rfl) (by simp) ?_
  refine AllReadyH.cons (o := ⟨some 14, .call { callee := .value (.func 64), args := #[.tmp 9, .tmp 13], argTypes := #[23, 23] }, _, _, _, _⟩) rfl (fun K hK => ?_) AllReadyH.nil
  go_simp
  go_wp2_with (go_at_call 64; go_must (refine (further_is x y f _ HX.out HY.out HF.out).mono ?_); rintro e w1 ⟨rfl, rfl⟩)
  refine hK.out _ _ hS0 (fun hHeld => ?_)
  clear hK K
  refine wpAnyH_ready (rs := [11]) (by kernel_rfl) (by simp) ?_
  refine AllReadyH.cons (o := ⟨some 17, .call { callee := .value (.func 65), args := #[.tmp 15, .tmp 16], argTypes := #[3, 3] }, _, _, _, _⟩) rfl (fun K hK => ?_) AllReadyH.nil
  go_simp
  go_wp2_with (go_at_call 65; go_must (refine (cmpInt_is i j g _ HI.out).mono ?_); rintro e w1 ⟨rfl, rfl⟩)
  refine hK.out _ _ hS0 (fun hHeld => ?_)
  clear hK K
  refine wpAnyH_ready (rs := [12]) (by kernel_rfl) (by simp) ?_
  refine AllReadyH.cons (o := ⟨some 18, .buildSlice 33 2 #[(0, .tmp 14), (1, .tmp 17)], _, _, _, _⟩) rfl (fun K hK => ?_) AllReadyH.nil
  go_simp
  have hS3 := hS0.alloc hS0.size (.cells #[.int .i64 f, .int .i64 g] 3); have HC3 := Lib.hid (cells2 W.drew f g)
  refine hK.out _ _ hS3 (fun hHeld => ?_)
  clear hK K
  refine wpAnyH_ready (rs := [13]) (by kernel_rfl) (by simp) ?_
  refine AllReadyH.cons (o := ⟨some 19, .call { callee := .value (.func 63), args := #[.tmp 18], argTypes := #[33] }, _, _, _, _⟩) rfl (fun K hK => ?_) AllReadyH.nil
  go_simp
  go_wp2_with (go_at_call 63; go_must (refine (or2_any _ _ _ _ HC3.out.1 HC3.out.2).mono ?_); rintro e w4 ⟨rfl, rfl⟩)
  refine hK.out _ _ hS3 (fun hHeld => ?_)
  clear hK K
  refine wpAnyH_take (i := 14) (oi := ⟨some 5, .assign (.tmp 19), _, _, _, _⟩) (v := (.int .i64 (or2F f g))) rfl (by kernel_rfl) (by kernel_rfl) (by kernel_rfl) (fun _ _ _ h => h) (Or.inl ⟨by rfl, fun W hW => by go_simp⟩) (by assumption) ?_
  simp only [Act.put, List.setIfInBounds_toArray, List.set_cons_zero, List.set_cons_succ]
  refine wpAnyH_done (by kernel_rfl) ?_ _
  go_wp2
  go_ret
  exact ⟨retI HE.out, _, rfl⟩
#print axioms rankC_any
end Go.Proofs.Ytkafeadgjpglaaa
