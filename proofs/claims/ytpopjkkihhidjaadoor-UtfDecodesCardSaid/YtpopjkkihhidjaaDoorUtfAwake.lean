/-
  The walk of awake: what the chapter's examples say.
-/
import Derived.Test.YtpopjkkihhidjaaDoorUtfCut
namespace Go.Proofs.YtpopjkkihhidjaaDoor
open Go.RowKit

def aC : ByteArray := ⟨#[97, 192, 128]⟩
def aU : ByteArray := ⟨#[97, 206, 177, 98]⟩

theorem chk_aC : chkE aC.data.toList = (1, 5) := by decide +kernel
theorem cut_aU : cutE aU.data.toList 1 2 = ([206, 177], 0) := by decide +kernel
theorem enc_euro : encF 8364 = [226, 130, 172] := by decide +kernel

set_option maxRecDepth 100000 in
set_option maxHeartbeats 400000 in
theorem awake_any (w : World) (hT : Tabs w) : Calls Tryd.prog 13 #[] w fun e w' => e = .returned (.bool true) ∧ Below w.heap.size w w' := by
  have HE : ∀ W, Calls Tryd.prog 11 #[.int .i32 8364] W fun e w' => e = .returned (.tuple #[.string ⟨#[226, 130, 172]⟩, .int .i64 0]) ∧ W = w' := fun W => by
    have := encode_ok 8364 (by decide) W
    rw [enc_euro] at this
    exact this
  have HC : ∀ W, Tabs W → Calls Tryd.prog 19 #[.string ⟨#[97, 192, 128]⟩] W fun e w' => e = .returned (.tuple #[.int .i64 1, .int .i64 5]) ∧ Below W.heap.size W w' := fun W hW => by
    have := check_any aC W (by decide) hW
    rw [chk_aC] at this
    exact this
  have HK : ∀ W, Tabs W → Calls Tryd.prog 24 #[.string ⟨#[97, 206, 177, 98]⟩, .int .i64 1, .int .i64 2] W fun e w' => e = .returned (.tuple #[.string ⟨#[206, 177]⟩, .int .i64 0]) ∧ Below W.heap.size W w' := fun W hW => by
    have := cut_any aU 1 2 W (by decide) hW
    rw [cut_aU] at this
    exact this
  have HE' := fun W => Lib.hid (HE W)
  have HC' := fun W h => Lib.hid (HC W h)
  have HK' := fun W h => Lib.hid (HK W h)
  have HT := Lib.hid hT
  clear HE HC HK hT
  go_enter Tryd.func13, Tryd.ntmps13
  go_wp2_with (first
    | (go_at_call 11; go_must (refine (HE' _).out.mono ?_); rintro e w1 ⟨rfl, rfl⟩)
    | (go_at_call 19; go_must (refine (HC' _ HT.out).out.mono ?_); rintro e w2 ⟨rfl, hb2⟩)
    | (go_at_call 24; go_must (refine (HK' _ (HT.out.below hb2)).out.mono ?_); rintro e w3 ⟨rfl, hb3⟩))
  go_ret
  exact ⟨retB (by decide +kernel), hb2.trans (hb3.mono hb2.size)⟩
#print axioms awake_any
end Go.Proofs.YtpopjkkihhidjaaDoor
