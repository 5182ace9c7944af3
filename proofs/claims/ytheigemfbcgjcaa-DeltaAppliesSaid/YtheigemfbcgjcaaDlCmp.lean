/-
  The walks of cmp.Compare, behind, and both comparing closures of the sorter.
-/
import Derived.Test.YtheigemfbcgjcaaDlInts
import Derived.Deep.RegionHeld
namespace Go.Proofs.Ytheigemfbcgjcaa
open Go.RowKit

def sgnF (a b : Int) : Int := if a < b then -1 else if b < a then 1 else 0
theorem sgn_lt (a b : Int) : sgnF a b < 0 ↔ a < b := by
  unfold sgnF
  split
  · simp; omega
  · split <;> simp <;> omega
set_option hygiene false in
theorem cmpI_any (a b : Int) (w : World) : Calls Try.prog 56 #[.int .i64 a, .int .i64 b] w fun e w' => e = .returned (.int .i64 (sgnF a b)) ∧ w' = w := by
  by_cases h1 : a < b
  · have HE := Lib.hid (show sgnF a b = -1 by unfold sgnF; rw [if_pos h1])
    go_enter Try.func56, Try.ntmps56
    go_wp2
    go_ret
    exact ⟨by rw [HE.out]; rfl, rfl⟩
  · by_cases h2 : b < a
    · have HE := Lib.hid (show sgnF a b = 1 by unfold sgnF; rw [if_neg h1, if_pos h2])
      have d1 : decide (a < b) = false := decide_eq_false h1
      clear h1
      go_enter Try.func56, Try.ntmps56
      go_wp2
      go_ret
      exact ⟨by rw [HE.out]; rfl, rfl⟩
    · have HE := Lib.hid (show sgnF a b = 0 by unfold sgnF; rw [if_neg h1, if_neg h2])
      have d1 : decide (a < b) = false := decide_eq_false h1
      have d2 : decide (b < a) = false := decide_eq_false h2
      clear h1 h2
      go_enter Try.func56, Try.ntmps56
      go_wp2
      go_ret
      exact ⟨by rw [HE.out]; rfl, rfl⟩
theorem cmpU_any (a b : Nat) (w : World) : Calls Try.prog 44 #[.int .u8 (a : Nat), .int .u8 (b : Nat)] w fun e w' => e = .returned (.int .i64 (sgnF a b)) ∧ w' = w := by
  obtain ⟨x, hx⟩ : ∃ x : Int, x = (a : Nat) := ⟨_, rfl⟩
  obtain ⟨y, hy⟩ : ∃ y : Int, y = (b : Nat) := ⟨_, rfl⟩
  rw [← hx, ← hy]
  clear hx hy
  by_cases h1 : x < y
  · have HE := Lib.hid (show sgnF x y = -1 by unfold sgnF; rw [if_pos h1])
    go_enter Try.func44, Try.ntmps44
    go_wp2
    go_ret
    exact ⟨by rw [HE.out]; rfl, rfl⟩
  · by_cases h2 : y < x
    · have HE := Lib.hid (show sgnF x y = 1 by unfold sgnF; rw [if_neg h1, if_pos h2])
      have d1 : decide (x < y) = false := decide_eq_false h1
      clear h1
      go_enter Try.func44, Try.ntmps44
      go_wp2
      go_ret
      exact ⟨by rw [HE.out]; rfl, rfl⟩
    · have HE := Lib.hid (show sgnF x y = 0 by unfold sgnF; rw [if_neg h1, if_neg h2])
      have d1 : decide (x < y) = false := decide_eq_false h1
      have d2 : decide (y < x) = false := decide_eq_false h2
      clear h1 h2
      go_enter Try.func44, Try.ntmps44
      go_wp2
      go_ret
      exact ⟨by rw [HE.out]; rfl, rfl⟩

/-- The slice of a whole block. -/
abbrev pS (g n : Nat) : Value := .slice (some ⟨g, 0, none⟩) n n
set_option maxRecDepth 100000 in
set_option maxHeartbeats 1000000 in
theorem behind_any (gs gr n p K : Nat) (b : List UInt8) (R : List Nat) (w : World) (hb : b.length = n) (c1 : w.cell? ⟨gs, 1, none⟩ = some (.int .i64 (K : Nat))) (c2 : w.cell? ⟨gs, 2, none⟩ = some (pS gr n)) (hR : IntsAt w gr n R) (hp : p < n) (hn : n ≤ 1000000) (hK : K ≤ 2000000) (z : Int) (hz : behF b K R p = z) :
    Calls Try.prog 57 #[.pointer (some ⟨gs, 0, none⟩), .int .i64 (p : Nat)] w fun e w' => e = .returned (.int .i64 z) ∧ ∃ q, w' = w.drewN q := by
  have hnI : (n : Int) ≤ 1000000 := by omega
  have hpI : (p : Int) < (n : Int) := by omega
  have hp0 : (0 : Int) ≤ (p : Int) := by omega
  have hK0 : (0 : Int) ≤ (K : Int) := by omega
  have hKI : (K : Int) ≤ 2000000 := by omega
  have W1 : IntKind.i64.wrap ((n : Int) - (p : Int)) = (n : Int) - (p : Int) := IntWalk.i64_in _ (by omega)
  have W2 : IntKind.i64.wrap ((p : Int) + (K : Int)) = (p : Int) + (K : Int) := IntWalk.i64_in _ (by omega)
  by_cases hc : (n : Int) - (p : Int) ≤ (K : Int)
  · have HE := Lib.hid (show z = -1 by rw [← hz]; unfold behF; rw [if_pos (by omega)])
    have d1 : decide ((n : Int) - (p : Int) ≤ (K : Int)) = true := decide_eq_true hc
    clear hz hR hb hp hn hK
    unfold pS at c2
    go_enter Try.func57, Try.ntmps57
    go_wp2
    go_quiet (fail)
    go_wp2
    go_ret
    exact ⟨by rw [HE.out]; rfl, nq, rfl⟩
  · have HE := Lib.hid (show z = (R.getD (p + K) 0 : Nat) by rw [← hz]; unfold behF; rw [if_neg (by omega)])
    have d1 : decide ((n : Int) - (p : Int) ≤ (K : Int)) = false := decide_eq_false hc
    have hlt : p + K < n := by omega
    have hltI : (p : Int) + (K : Int) < (n : Int) := by omega
    have c3 := (hR.2.2 (p + K) hlt).1
    clear hz hR hb hp hn hK
    unfold pS at c2
    go_enter Try.func57, Try.ntmps57
    go_wp2
    go_quiet (fail)
    go_wp2
    go_quiet (fail)
    go_wp2
    go_ret
    exact ⟨by rw [HE.out]; rfl, _, World.drewN_drewN _ _ _⟩

theorem drew_behind {gs gr n p K : Nat} {b : List UInt8} {R : List Nat} {w : World} (hb : b.length = n) (c1 : w.cell? ⟨gs, 1, none⟩ = some (.int .i64 (K : Nat))) (c2 : w.cell? ⟨gs, 2, none⟩ = some (pS gr n)) (hR : IntsAt w gr n R) (hp : p < n) (hn : n ≤ 1000000) (hK : K ≤ 2000000) (z : Int) (hz : behF b K R p = z) (k : Nat) :
    Calls Try.prog 57 #[.pointer (some ⟨gs, 0, none⟩), .int .i64 (p : Nat)] (w.drewN k) fun e w' => e = .returned (.int .i64 z) ∧ ∃ m, w' = w.drewN m := by
  refine (behind_any gs gr n p K b R (w.drewN k) hb c1 c2 hR hp hn hK z hz).mono ?_
  rintro e w' ⟨rfl, q, rfl⟩
  exact ⟨rfl, _, World.drewN_drewN _ _ _⟩
set_option maxRecDepth 100000 in
set_option maxHeartbeats 1000000 in
theorem partc_any (gx gs gr n p q K : Nat) (b : List UInt8) (R : List Nat) (w : World) (c0 : w.cell? ⟨gx, 0, none⟩ = some (.pointer (some ⟨gs, 0, none⟩))) (hb : b.length = n) (c1 : w.cell? ⟨gs, 1, none⟩ = some (.int .i64 (K : Nat))) (c2 : w.cell? ⟨gs, 2, none⟩ = some (pS gr n)) (hR : IntsAt w gr n R) (hp : p < n) (hq : q < n) (hn : n ≤ 1000000) (hK : K ≤ 2000000) :
    Calls Try.prog 55 #[.int .i64 (p : Nat), .int .i64 (q : Nat), .pointer (some ⟨gx, 0, none⟩)] w fun e w' => e = .returned (.int .i64 (sgnF (behF b K R p) (behF b K R q))) ∧ ∃ k, w' = w.drewN k := by
  obtain ⟨z1, hz1⟩ : ∃ z, behF b K R p = z := ⟨_, rfl⟩
  obtain ⟨z2, hz2⟩ : ∃ z, behF b K R q = z := ⟨_, rfl⟩
  rw [hz1, hz2]
  have H1 := Lib.hid (drew_behind hb c1 c2 hR hp hn hK z1 hz1)
  have H2 := Lib.hid (drew_behind hb c1 c2 hR hq hn hK z2 hz2)
  have H3 := Lib.hid (cmpI_any z1 z2)
  clear hz1 hz2 hR hb hp hq hn hK c1 c2
  go_enter Try.func55, Try.ntmps55
  go_wp2
  go_quiet (first
    | (go_at_call 57; (with_reducible exact H1.out _))
    | (go_at_call 57; (with_reducible exact H2.out _))
    | (go_at_call 56; exact Calls.quiet_of_same (H3.out _)))
  go_wp2
  go_ret
  exact ⟨rfl, _, rfl⟩
set_option maxRecDepth 100000 in
set_option maxHeartbeats 1000000 in
theorem firstc_any (gx n c p q : Nat) (a : Option Addr) (b : List UInt8) (w : World) (c0 : w.cell? ⟨gx, 0, none⟩ = some (.slice a n c)) (hb : Bytes w a n c b) (hp : p < n) (hq : q < n) :
    Calls Try.prog 43 #[.int .i64 (p : Nat), .int .i64 (q : Nat), .pointer (some ⟨gx, 0, none⟩)] w fun e w' => e = .returned (.int .i64 (sgnF ((b.getD p 0).toNat : Nat) ((b.getD q 0).toNat : Nat))) ∧ ∃ k, w' = w.drewN k := by
  obtain ⟨bb, off, rfl⟩ := bsome hb (by have := hb.2.1; omega)
  obtain ⟨x, hx⟩ : ∃ x, (b.getD p 0).toNat = x := ⟨_, rfl⟩
  obtain ⟨y, hy⟩ : ∃ y, (b.getD q 0).toNat = y := ⟨_, rfl⟩
  have c1 : w.cell? ⟨bb, off + p, none⟩ = some (.int .u8 (x : Nat)) := hx ▸ bcell hb p hp
  have c2 : w.cell? ⟨bb, off + q, none⟩ = some (.int .u8 (y : Nat)) := hy ▸ bcell hb q hq
  rw [hx, hy]
  have hp0 : (0 : Int) ≤ (p : Int) := by omega
  have hq0 : (0 : Int) ≤ (q : Int) := by omega
  have hpI : (p : Int) < (n : Int) := by omega
  have hqI : (q : Int) < (n : Int) := by omega
  have H3 := Lib.hid (cmpU_any x y)
  clear hx hy hb hp hq
  go_enter Try.func43, Try.ntmps43
  go_wp2
  go_quiet ((go_at_call 44; exact Calls.quiet_of_same (H3.out _)))
  go_wp2
  go_ret
  exact ⟨rfl, _, rfl⟩
#print axioms partc_any
#print axioms firstc_any
end Go.Proofs.Ytheigemfbcgjcaa
