/-
  The walk of the document's own Copy.
-/
import Derived.Test.YtheigemfbcgjcaaBytes
namespace Go.Proofs.Ytheigemfbcgjcaa
open Go.RowKit

theorem own_empty (w : World) : Own (w.alloc (.cells #[] 5)) w.heap.size (.slice (some ⟨w.heap.size, 0, none⟩) 0 0) [] :=
  World.ownsRow_lit w #[] 0 (Nat.le_refl _) (by unfold maxLen; omega) rfl

set_option maxRecDepth 100000 in
set_option maxHeartbeats 400000 in
theorem copy_any (a : Option Addr) (n c : Nat) (l : List UInt8) (w : World) (hb : Bytes w a n c l) (hl : l.length ≤ 140737488355328) :
    Calls Try.prog 9 #[.slice a n c] w (Made w l) := by
  have hbel : Below w.heap.size w (w.alloc (.cells #[] 5)) := (Below.refl _ _).alloc (Nat.le_refl _) _
  have hown := own_empty w
  have hB := hb.below hbel
  have hn := hb.1
  have HB := Lib.hid hB
  have HO := Lib.hid hown
  have HBL := Lib.hid hbel
  clear hB hown hbel hb
  go_enter Try.func9, Try.ntmps9
  go_wp2_with (at_builtin; go_must (refine app_bytes rfl (.tmp 3) (.tmp 4) rfl w.heap.size _ [] rfl HO.out a n c l rfl HB.out (by simp; omega) (by simp) ?_); intro v' w1 hown1 hgr1)
  go_ret
  exact Made.of (by simpa using hown1) (HBL.out.grown hgr1 (by simp) HO.out.grown)
#print axioms copy_any
end Go.Proofs.Ytheigemfbcgjcaa
