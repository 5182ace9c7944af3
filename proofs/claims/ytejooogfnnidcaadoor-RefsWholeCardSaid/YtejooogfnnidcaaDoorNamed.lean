/-
  The walks of Name's closure, and of each over a name's runes.
-/
import Derived.Test.YtejooogfnnidcaaDoorPathSmall
namespace Go.Proofs.YtejooogfnnidcaaDoor
open Go.RowKit

theorem nameC_iff (n : Nat) : nameC n = true ↔ (97 ≤ n ∧ n ≤ 122) ∨ (65 ≤ n ∧ n ≤ 90) ∨ (48 ≤ n ∧ n ≤ 57) ∨ n = 45 ∨ n = 95 ∨ n = 46 := by
  simp [nameC]; omega

set_option maxRecDepth 100000 in
set_option maxHeartbeats 1000000 in
theorem named_is (n : Nat) (c : Bool) (w : World) (h : nameC n = c) : Calls Tryd.prog 66 #[.int .i32 n] w fun e w' => e = .returned (.bool c) ∧ w = w' := by
  have HC := Lib.hid (show c = true ↔ _ from h ▸ nameC_iff n)
  clear h
  go_enter Tryd.func66, Tryd.ntmps66
  go_wp2
  all_goals
    go_ret
    refine ⟨retBl ?_, rfl⟩
    rw [Bool.eq_iff_iff, HC.out]
    simp
    omega
#print axioms named_is
end Go.Proofs.YtejooogfnnidcaaDoor
