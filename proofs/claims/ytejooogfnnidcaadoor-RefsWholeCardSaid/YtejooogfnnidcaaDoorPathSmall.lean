/-
  The walks of sized, text, seen and of each over a text's runes; of Author, Note and Bytes, the program's.
-/
import Derived.Test.YtejooogfnnidcaaDoorClash
import Derived.Test.YtejooogfnnidcaaDoorUtGetAll
namespace Go.Proofs.YtejooogfnnidcaaDoor
open Go.RowKit

set_option maxRecDepth 100000 in
set_option maxHeartbeats 400000 in
theorem sized_is (s : ByteArray) (lo hi : Int) (c : Bool) (w : World) (h : (decide (lo ≤ (s.size : Int)) && decide ((s.size : Int) ≤ hi)) = c) :
    Calls Tryd.prog 49 #[.string s, .int .i64 lo, .int .i64 hi] w fun e w' => e = .returned (.bool c) ∧ w = w' := by
  by_cases h1 : lo ≤ (s.size : Int)
  · by_cases h2 : (s.size : Int) ≤ hi
    · have HC := Lib.hid (show c = true by rw [← h, decide_eq_true h1, decide_eq_true h2]; rfl)
      clear h
      go_enter Tryd.func49, Tryd.ntmps49
      go_wp2
      go_ret
      exact ⟨retBl HC.out.symm, rfl⟩
    · have HC := Lib.hid (show c = false by rw [← h, decide_eq_true h1, decide_eq_false h2]; rfl)
      clear h
      go_enter Tryd.func49, Tryd.ntmps49
      go_wp2
      go_ret
      exact ⟨retBl HC.out.symm, rfl⟩
  · have HC := Lib.hid (show c = false by rw [← h, decide_eq_false h1]; rfl)
    clear h
    go_enter Tryd.func49, Tryd.ntmps49
    go_wp2
    go_ret
    exact ⟨retBl HC.out.symm, rfl⟩

set_option maxRecDepth 100000 in
set_option maxHeartbeats 400000 in
theorem text_any (s : ByteArray) (w : World) (hs : s.size ≤ 140737488355328) (hT : Tabs w) :
    Calls Tryd.prog 50 #[.string s] w fun e w' => e = .returned (.bool (textOk s.data.toList)) ∧ Below w.heap.size w w' := by
  rcases runesF_cases s.data.toList with ⟨L, hL⟩ | ⟨p, hL⟩
  · have HC := Lib.hid (check_some s L _ w hs hT hL)
    have HE := Lib.hid (textOk_some hL)
    clear hs hT hL
    go_enter Tryd.func50, Tryd.ntmps50
    go_wp2_with (go_at_call 64; (with_reducible refine HC.out.mono ?_); rintro e w1 ⟨rfl, hb⟩)
    go_ret
    exact ⟨retBl HE.out.symm, hb⟩
  · have HC := Lib.hid (check_none s p w hs hT hL)
    have HE := Lib.hid (textOk_none hL)
    clear hs hT hL
    go_enter Tryd.func50, Tryd.ntmps50
    go_wp2_with (go_at_call 64; (with_reducible refine HC.out.mono ?_); rintro e w1 ⟨rfl, hb⟩)
    go_ret
    exact ⟨retBl HE.out.symm, hb⟩

end Go.Proofs.YtejooogfnnidcaaDoor
