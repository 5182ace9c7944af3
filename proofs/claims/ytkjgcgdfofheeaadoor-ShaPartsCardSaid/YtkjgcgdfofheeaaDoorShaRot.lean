/-
  The walks of right and of the document's own rot.
-/
import Derived.Test.YtkjgcgdfofheeaaDoorProg
import Derived.Test.YtkjgcgdfofheeaaDoorShaMath
import Derived.WalkKit
import Derived.WalkSpells
import Derived.Lib.Hide
namespace Go.Proofs.YtkjgcgdfofheeaaDoor
open Go.RowKit

theorem ret_u32 {a b : Int} (h : a = b) : Ending.returned (.int .u32 a) = .returned (.int .u32 b) := by rw [h]

set_option maxRecDepth 100000 in
set_option maxHeartbeats 400000 in
theorem rotl_any (x : UInt32) (n : Nat) (w : World) (h0 : 0 < n) (h1 : n < 32) :
    Calls Tryd.prog 23 #[.int .u32 (x.toNat : Int), .int .i64 (-(n : Int))] w fun e w' => e = .returned (.int .u32 ((rotr n x).toNat : Int)) ∧ w = w' := by
  have hm := neg_mask' n h0 h1
  have hr := Lib.hid (right_form n x h0 h1)
  have hc : ((32 - n : Nat) : Int) = 32 - (n : Int) := by omega
  have hx := x.toNat_lt
  rw [hc] at hm
  clear hc
  go_enter Tryd.func23, Tryd.ntmps23
  go_wp2
  go_ret
  exact ⟨ret_u32 (by rw [show 32 - (32 - n) = n from by omega]; exact hr.out), rfl⟩

set_option maxRecDepth 100000 in
set_option maxHeartbeats 400000 in
theorem rot_any (x : UInt32) (w : World) (n : Nat) (h0 : 0 < n) (h1 : n < 32) :
    Calls Tryd.prog 17 #[.int .u32 (x.toNat : Int), .int .u64 n] w fun e w' => e = .returned (.int .u32 ((rotr n x).toNat : Int)) ∧ w = w' := by
  have hr := Lib.hid (rot_form n x h0 h1)
  have hx := x.toNat_lt
  go_enter Tryd.func17, Tryd.ntmps17
  go_wp2
  go_ret
  exact ⟨ret_u32 hr.out, rfl⟩

set_option maxRecDepth 100000 in
set_option maxHeartbeats 400000 in
theorem right_any (x : UInt32) (n : Nat) (w : World) (h0 : 0 < n) (h1 : n < 32) :
    Calls Tryd.prog 22 #[.int .u32 (x.toNat : Int), .int .i64 n] w fun e w' => e = .returned (.int .u32 ((rotr n x).toNat : Int)) ∧ w = w' := by
  go_enter Tryd.func22, Tryd.ntmps22
  go_wp2_with (go_at_call 23; go_must (refine (rotl_any _ _ _ h0 h1).mono ?_); rintro e w1 ⟨rfl, rfl⟩)
  go_ret
  exact ⟨rfl, rfl⟩
theorem right_lit (x : UInt32) (z : Int) (w : World) (h0 : 0 < z) (h1 : z < 32) :
    Calls Tryd.prog 22 #[.int .u32 (x.toNat : Int), .int .i64 z] w fun e w' => e = .returned (.int .u32 ((rotr z.toNat x).toNat : Int)) ∧ w = w' := by
  obtain ⟨n, rfl⟩ := Int.eq_ofNat_of_zero_le (show 0 ≤ z by omega)
  exact right_any x n w (by omega) (by omega)

theorem rot_lit (x : UInt32) (z : Int) (w : World) (h0 : 0 < z) (h1 : z < 32) :
    Calls Tryd.prog 17 #[.int .u32 (x.toNat : Int), .int .u64 z] w fun e w' => e = .returned (.int .u32 ((rotr z.toNat x).toNat : Int)) ∧ w = w' := by
  obtain ⟨n, rfl⟩ := Int.eq_ofNat_of_zero_le (show 0 ≤ z by omega)
  exact rot_any x w n (by omega) (by omega)
#print axioms right_any
end Go.Proofs.YtkjgcgdfofheeaaDoor
