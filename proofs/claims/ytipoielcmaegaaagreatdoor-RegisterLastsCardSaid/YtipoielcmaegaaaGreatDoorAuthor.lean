/-
  The walks of Author, Note and Bytes, the program's and the document's.
-/
import Derived.Test.YtipoielcmaegaaaGreatDoorRunesOk
namespace Go.Proofs.YtipoielcmaegaaaGreatDoor
open Go.RowKit

theorem Below.step {a b c : World} (h : Below a.heap.size a b) (k : Below b.heap.size b c) : Below a.heap.size a c := h.trans (k.mono h.size)
theorem text_is (s : ByteArray) (c : Bool) (w : World) (hs : s.size ≤ 140737488355328) (hT : Tabs w) (h : textOk s.data.toList = c) :
    Calls Tryz.prog 76 #[.string s] w fun e w' => e = .returned (.bool c) ∧ Below w.heap.size w w' := by subst h; exact text_any s w hs hT
theorem runes_is (s : ByteArray) (c : Bool) (w : World) (hs : s.size ≤ 20000000000) (h : runesOk s.data.toList = c) :
    Calls Tryz.prog 33 #[.string s] w fun e w' => e = .returned (.bool c) ∧ Below w.heap.size w w' := by subst h; exact runes_any_ok s w hs
theorem each_seen_is (s : ByteArray) (c : Bool) (w : World) (ht : textOk s.data.toList = true) (h : runesOk s.data.toList = c) :
    Calls Tryz.prog 77 #[.string s, .func (.func 78) #[] #[]] w fun e w' => e = .returned (.bool c) ∧ Below w.heap.size w w' := by
  subst h
  rcases runesF_cases s.data.toList with ⟨L, hL⟩ | ⟨p, hL⟩
  · rw [runesOk_some hL]; exact each_seen s L _ w hL
  · rw [textOk_none hL] at ht; cases ht

theorem retN {a b : Int} (h : a = b) : Ending.returned (.int .i64 a) = .returned (.int .i64 b) := by rw [h]

end Go.Proofs.YtipoielcmaegaaaGreatDoor
