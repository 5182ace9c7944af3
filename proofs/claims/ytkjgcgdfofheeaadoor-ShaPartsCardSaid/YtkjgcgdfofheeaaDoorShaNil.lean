/-
  The walk of ShaNil.
-/
import Derived.Test.YtkjgcgdfofheeaaDoorShaEq
namespace Go.Proofs.YtkjgcgdfofheeaaDoor
open Go.RowKit

set_option maxRecDepth 100000 in
set_option maxHeartbeats 400000 in
theorem shaNil_any (a : Option Addr) (n c : Nat) (w : World) (ht : Tables w) :
    Calls Tryd.prog 7 #[.slice a n c] w fun e w' => e = .returned (.bool true) ∧ Below w.heap.size w w' := by
  have hT := Lib.hid ht
  clear ht
  have hP := fun W => Lib.hid (parts_new W [.slice none 0 0, .slice none 0 0] [[], []] rfl (by simp) (fun j hj => match j, hj with
    | 0, _ => ⟨none, 0, 0, rfl, Bytes.nil W⟩
    | 1, _ => ⟨none, 0, 0, rfl, Bytes.nil W⟩))
  go_enter Tryd.func7, Tryd.ntmps7
  go_wp2_with (first
    | (go_at_call 13; go_must (refine (write_nil _ _ _ _).mono ?_); rintro e w1 ⟨rfl, rfl⟩)
    | (go_at_call 14; go_must (refine (len_nil _).mono ?_); rintro e w2 ⟨rfl, rfl⟩)
    | ((with_reducible show Calls _ 15 _ w _); go_must (refine (hsum_nil _ hT.out).mono ?_); rintro e w3 ⟨rfl, hb3⟩)
    | ((with_reducible show Calls _ 8 #[.slice none 0 0] _ _); go_must (refine (sum_any none 0 0 [] _ (Parts.nil _) (hT.out.below hb3) (by simp)).mono ?_); rintro e w4 ⟨rfl, hb4⟩; have hb5 := hb3.trans (hb4.mono hb3.size))
    | ((with_reducible show wpList _ _ _ (⟨some 14, _, _, _, _, _⟩ :: _) _ _); go_must (refine eql_sum_g (by rfl) (.tmp 12) (.tmp 13) _ rfl [] rfl rfl ?_))
    | ((with_reducible show Calls _ 15 _ w4 _); go_must (refine (hsum_nil _ (hT.out.below hb5)).mono ?_); rintro e w6 ⟨rfl, hb6⟩; have hb7 := hb5.trans (hb6.mono hb5.size); have hb8 := Below.alloc hb7 hb7.size (.cells #[.slice none 0 0, .slice none 0 0] 22))
    | ((with_reducible show Calls _ 8 #[.slice (some _) 2 2] _ _); go_must (refine (sum_any _ 2 2 [[], []] _ (hP w6).out (hT.out.below hb8) (by simp)).mono ?_); rintro e w9 ⟨rfl, hb9⟩; have hb10 := hb8.trans (hb9.mono hb8.size))
    | ((with_reducible show wpList _ _ _ (⟨some 21, _, _, _, _, _⟩ :: _) _ _); go_must (refine eql_sum_g (by rfl) (.tmp 18) (.tmp 20) _ rfl [] rfl rfl ?_))
    | (go_at_call 11; go_must (refine (awake_any _ (hT.out.below hb10)).mono ?_); rintro e w11 ⟨rfl, hb11⟩))
  go_ret
  exact ⟨rfl, hb10.trans (hb11.mono hb10.size)⟩
#print axioms shaNil_any
end Go.Proofs.YtkjgcgdfofheeaaDoor
