/-
  The walk of Encode.
-/
import Derived.Test.YtbfaaphijgmabaaDoorUtfShelf
import Derived.Test.YtbfaaphijgmabaaDoorUtfEnc0
namespace Go.Proofs.YtbfaaphijgmabaaDoor
open Go.RowKit

theorem valid_any (r : Int) (b : Bool) (h : Lib.validRune r = b) (w : World) : Calls Tryd.prog 49 #[.int .i32 r] w fun e w' => e = .returned (.bool b) ∧ w = w' :=
  (Tryd.utf8_ValidRune r w).mono fun _ _ ⟨h1, h2⟩ => ⟨h1.trans (retB h), h2.symm⟩

/-- A text and an error's number. -/
def StrE (l : List UInt8) (c : Nat) (w : World) (e : Ending) (w' : World) : Prop := e = .returned (.tuple #[.string (strB l), .int .i64 c]) ∧ w = w'

set_option maxRecDepth 100000 in
set_option maxHeartbeats 400000 in
theorem encode_ok (n : Nat) (h : mayF n = true) (w : World) : Calls Tryd.prog 40 #[.int .i32 (n : Int)] w (StrE (encF n) 0 w) := by
  have hv := valid_nat n
  rw [h] at hv
  have HE := Lib.hid (encode_eq n h)
  have hc := Lib.hid (valid_any (n : Int) true hv w)
  clear hv h
  go_enter Tryd.func40, Tryd.ntmps40
  go_wp2_with (go_at_call 49; go_must (refine hc.out.mono ?_); rintro e w1 ⟨rfl, rfl⟩)
  rw [HE.out]
  go_ret2
  exact ⟨rfl, rfl⟩

set_option maxRecDepth 100000 in
set_option maxHeartbeats 400000 in
theorem encode_no (r : Int) (h : Lib.validRune r = false) (w : World) : Calls Tryd.prog 40 #[.int .i32 r] w (StrE [] 5 w) := by
  have hc := Lib.hid (valid_any r false h w)
  clear h
  go_enter Tryd.func40, Tryd.ntmps40
  go_wp2_with (go_at_call 49; go_must (refine hc.out.mono ?_); rintro e w1 ⟨rfl, rfl⟩)
  go_ret2
  exact ⟨rfl, rfl⟩

end Go.Proofs.YtbfaaphijgmabaaDoor
