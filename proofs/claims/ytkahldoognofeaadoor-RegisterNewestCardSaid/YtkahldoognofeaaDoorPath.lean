/-
  The walks of Path, and of the document's Path and Parts.
-/
import Derived.Test.YtkahldoognofeaaDoorParts
import Derived.Laws.Cover3
namespace Go.Proofs.YtkahldoognofeaaDoor
open Go.RowKit

set_option maxRecDepth 100000 in
set_option maxHeartbeats 400000 in
theorem path_any (s : ByteArray) (w : World) (hs : s.size ≤ 140737488355328) (hT : Tabs w) :
    Calls Tryd.prog 32 #[.string s] w fun e w' => e = .returned (.bool (pathF s.data.toList)) ∧ Below w.heap.size w w' := by
  obtain ⟨r, hr⟩ : ∃ r, r = pathF s.data.toList := ⟨_, rfl⟩
  rw [← hr]
  have H1 := Lib.hid (parts_any s w hs hT)
  have HR := Lib.hid hr
  clear hr hs hT
  go_enter Tryd.func32, Tryd.ntmps32
  go_wp2_with (go_at_call 41; (with_reducible refine H1.out.mono ?_); rintro e w1 ⟨a, n, c, rfl, ho, ha, hb⟩; rw [← HR.out] at ha; have HA := Lib.hid ha; have HB := Lib.hid hb; clear ho ha hb)
  all_goals
    go_ret
    refine ⟨retBl ?_, HB.out⟩
    first
      | (rw [← HA.out]; done)
      | (rw [← HA.out]; cases a <;> rfl)

theorem path_is (s : ByteArray) (c : Bool) (w : World) (hs : s.size ≤ 140737488355328) (hT : Tabs w) (h : pathF s.data.toList = c) :
    Calls Tryd.prog 32 #[.string s] w fun e w' => e = .returned (.bool c) ∧ Below w.heap.size w w' := by subst h; exact path_any s w hs hT

end Go.Proofs.YtkahldoognofeaaDoor
