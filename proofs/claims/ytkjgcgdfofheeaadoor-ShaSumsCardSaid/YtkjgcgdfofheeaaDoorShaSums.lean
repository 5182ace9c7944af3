/-
  The walk of ShaSums.
-/
import Derived.Test.YtkjgcgdfofheeaaDoorShaEq
import Derived.Test.YtkjgcgdfofheeaaDoorShaRef
namespace Go.Proofs.YtkjgcgdfofheeaaDoor
open Go.RowKit

set_option maxRecDepth 100000 in
set_option maxHeartbeats 1000000 in
theorem shaSums_any (a : Option Addr) (n c : Nat) (l : List UInt8) (w : World) (hb : Bytes w a n c l) (ht : Tables w) :
    Calls Tryd.prog 3 #[.slice a n c] w fun e w' => e = .returned (.bool true) ∧ Below w.heap.size w w' := by
  have hT := Lib.hid ht
  have hB := Lib.hid hb
  have hn63 := hb.2.1
  have hln := hb.1
  by_cases hn : (n : Int) ≤ 20000
  · have hd : decide (20000 < (n : Int)) = false := by simp; omega
    have HL := Lib.hid (show l.length ≤ 20000 by omega)
    clear ht hb hln
    go_enter Tryd.func3, Tryd.ntmps3
    go_wp2_with (first
      | (go_at_call 9; go_must (refine (copy_any a n c l w hB.out (by have := HL.out; omega)).mono ?_); rintro e w1 ⟨a1, n1, c1, rfl, hown1, hbel1⟩)
      | (go_at_call 8; go_must (refine (sum_one _ l _ (parts1 hown1.isBytes rfl) ((hT.out.below hbel1).below ((Below.refl _ _).alloc (Nat.le_refl _) _)) (by have := HL.out; omega)).mono ?_); rintro e w2 ⟨rfl, hb2⟩; have hB2 := (hbel1.alloc hbel1.size _).trans (hb2.mono (hbel1.alloc hbel1.size _).size))
      | (go_at_call 10; go_must (refine (rsum_any a n c l w2 (hB.out.below hB2) (by have := HL.out; omega)).mono ?_); rintro e w3 ⟨rfl, hb3⟩; have hB3 := hB2.trans (hb3.mono hB2.size))
      | ((with_reducible show wpList _ _ _ (⟨some 12, _, _, _, _, _⟩ :: _) _ _); go_must (refine eql_sum rfl (.tmp 9) (.tmp 11) _ rfl l rfl rfl ?_))
      | (go_at_call 11; go_must (refine (awake_any _ (hT.out.below hB3)).mono ?_); rintro e w4 ⟨rfl, hb4⟩))
    go_ret
    exact ⟨rfl, hB3.trans (hb4.mono hB3.size)⟩
  · have hd : decide (20000 < (n : Int)) = true := by simp; omega
    clear ht hb hln
    go_enter Tryd.func3, Tryd.ntmps3
    go_wp2
    go_ret
    exact ⟨rfl, Below.refl _ _⟩
#print axioms shaSums_any
end Go.Proofs.YtkjgcgdfofheeaaDoor
