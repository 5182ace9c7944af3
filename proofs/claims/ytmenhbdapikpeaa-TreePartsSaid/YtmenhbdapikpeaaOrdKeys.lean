/-
  The walks of cmp.Compare and cmp.Or at int; keys by value.
-/
import Derived.Test.YtmenhbdapikpeaaOrdRefCmp
namespace Go.Proofs.Ytmenhbdapikpeaa
open Go.RowKit

/-- Which of two numbers stands ahead. -/
def intF (a b : Int) : Int := if a < b then -1 else if b < a then 1 else 0

set_option maxRecDepth 100000 in
set_option maxHeartbeats 400000 in
theorem cmpInt_any (a b : Int) (w : World) : Calls Try.prog 32 #[.int .i64 a, .int .i64 b] w fun e w' => e = .returned (.int .i64 (intF a b)) ∧ w = w' := by
  by_cases h1 : a < b
  · have HE := Lib.hid (show intF a b = -1 by unfold intF; rw [if_pos h1])
    go_enter Try.func32, Try.ntmps32
    go_wp2
    go_ret
    exact ⟨by rw [HE.out]; rfl, rfl⟩
  · by_cases h2 : b < a
    · have HE := Lib.hid (show intF a b = 1 by unfold intF; rw [if_neg h1, if_pos h2])
      have d1 : decide (a < b) = false := decide_eq_false h1
      clear h1
      go_enter Try.func32, Try.ntmps32
      go_wp2
      go_ret
      exact ⟨by rw [HE.out]; rfl, rfl⟩
    · have HE := Lib.hid (show intF a b = 0 by unfold intF; rw [if_neg h1, if_neg h2])
      have d1 : decide (a < b) = false := decide_eq_false h1
      have d2 : decide (b < a) = false := decide_eq_false h2
      clear h1 h2
      go_enter Try.func32, Try.ntmps32
      go_wp2
      go_ret
      exact ⟨by rw [HE.out]; rfl, rfl⟩

/-- The first of three that is not 0. -/
def orF (x y z : Int) : Int := if x ≠ 0 then x else if y ≠ 0 then y else z

set_option maxRecDepth 100000 in
set_option maxHeartbeats 400000 in
theorem or_any (g : Nat) (x y z : Int) (w : World) (h0 : w.cell? ⟨g, 0, none⟩ = some (.int .i64 x)) (h1 : w.cell? ⟨g, 1, none⟩ = some (.int .i64 y)) (h2 : w.cell? ⟨g, 2, none⟩ = some (.int .i64 z)) :
    Calls Try.prog 31 #[.slice (some ⟨g, 0, none⟩) 3 3] w fun e w' => e = .returned (.int .i64 (orF x y z)) ∧ w = w' := by
  by_cases hx : x = 0
  · by_cases hy : y = 0
    · have HE := Lib.hid (show orF x y z = z by unfold orF; rw [if_neg (by simp [hx]), if_neg (by simp [hy])])
      have dx : (x != 0) = false := by simp [hx]
      have dy : (y != 0) = false := by simp [hy]
      clear hx hy
      by_cases hz : z = 0
      · have dz : (z != 0) = false := by simp [hz]
        have HZ := Lib.hid hz
        clear hz
        go_enter Try.func31, Try.ntmps31
        go_wp2
        go_loopg [8] 3 (fun g' v8 W => ∃ j : Nat, w = W ∧ v8 = .int .i64 j ∧ g' + j = 3)
        case atStart => exact ⟨0, rfl, rfl, rfl⟩
        case round =>
          obtain ⟨j, rfl, rfl, hg⟩ := hrel
          have hc : j = 0 ∨ j = 1 ∨ j = 2 ∨ j = 3 := by omega
          rcases hc with rfl | rfl | rfl | rfl
          · go_wp2
            go_roundg 2
            case measure => omega
            case rel => exact ⟨1, rfl, rfl, rfl⟩
          · go_wp2
            go_roundg 1
            case measure => omega
            case rel => exact ⟨2, rfl, rfl, rfl⟩
          · go_wp2
            go_roundg 0
            case measure => omega
            case rel => exact ⟨3, rfl, rfl, rfl⟩
          · go_wp2
            go_ret
            exact ⟨by rw [HE.out, HZ.out]; rfl, rfl⟩
      · have dz : (z != 0) = true := by simpa using hz
        clear hz
        go_enter Try.func31, Try.ntmps31
        go_wp2
        go_loopg [8] 3 (fun g' v8 W => ∃ j : Nat, w = W ∧ v8 = .int .i64 j ∧ g' + j = 3 ∧ j ≤ 2)
        case atStart => exact ⟨0, rfl, rfl, rfl, by omega⟩
        case round =>
          obtain ⟨j, rfl, rfl, hg, hj2⟩ := hrel
          have hc : j = 0 ∨ j = 1 ∨ j = 2 := by omega
          rcases hc with rfl | rfl | rfl
          · go_wp2
            go_roundg 2
            case measure => omega
            case rel => exact ⟨1, rfl, rfl, rfl, by omega⟩
          · go_wp2
            go_roundg 1
            case measure => omega
            case rel => exact ⟨2, rfl, rfl, rfl, by omega⟩
          · go_wp2
            go_ret
            exact ⟨by rw [HE.out]; rfl, rfl⟩
    · have HE := Lib.hid (show orF x y z = y by unfold orF; rw [if_neg (by simp [hx]), if_pos hy])
      have dx : (x != 0) = false := by simp [hx]
      have dy : (y != 0) = true := by simpa using hy
      clear hx hy
      go_enter Try.func31, Try.ntmps31
      go_wp2
      go_loopg [8] 3 (fun g' v8 W => ∃ j : Nat, w = W ∧ v8 = .int .i64 j ∧ g' + j = 3 ∧ j ≤ 1)
      case atStart => exact ⟨0, rfl, rfl, rfl, by omega⟩
      case round =>
        obtain ⟨j, rfl, rfl, hg, hj2⟩ := hrel
        have hc : j = 0 ∨ j = 1 := by omega
        rcases hc with rfl | rfl
        · go_wp2
          go_roundg 2
          case measure => omega
          case rel => exact ⟨1, rfl, rfl, rfl, by omega⟩
        · go_wp2
          go_ret
          exact ⟨by rw [HE.out]; rfl, rfl⟩
  · have HE := Lib.hid (show orF x y z = x by unfold orF; rw [if_pos hx])
    have dx : (x != 0) = true := by simpa using hx
    clear hx
    go_enter Try.func31, Try.ntmps31
    go_wp2
    go_loopg [8] 3 (fun g' v8 W => ∃ j : Nat, w = W ∧ v8 = .int .i64 j ∧ g' + j = 3 ∧ j ≤ 0)
    case atStart => exact ⟨0, rfl, rfl, rfl, by omega⟩
    case round =>
      obtain ⟨j, rfl, rfl, hg, hj2⟩ := hrel
      have hc : j = 0 := by omega
      subst hc
      go_wp2
      go_ret
      exact ⟨by rw [HE.out]; rfl, rfl⟩
#print axioms or_any
end Go.Proofs.Ytmenhbdapikpeaa
