/-
  The walks of Author, Note and Bytes, the program's and the document's.
-/
import Derived.Test.YtejooogfnnidcaaDoorRunesOk
namespace Go.Proofs.YtejooogfnnidcaaDoor
open Go.RowKit

theorem Below.step {a b c : World} (h : Below a.heap.size a b) (k : Below b.heap.size b c) : Below a.heap.size a c := h.trans (k.mono h.size)
theorem text_is (s : ByteArray) (c : Bool) (w : World) (hs : s.size ≤ 140737488355328) (hT : Tabs w) (h : textOk s.data.toList = c) :
    Calls Tryd.prog 50 #[.string s] w fun e w' => e = .returned (.bool c) ∧ Below w.heap.size w w' := by subst h; exact text_any s w hs hT
theorem is_is (s : ByteArray) (c : Bool) (w : World) (hs : s.size ≤ 20000000000) (h : textOk s.data.toList = c) :
    Calls Tryd.prog 62 #[.string s] w fun e w' => e = .returned (.bool c) ∧ Below w.heap.size w w' := by subst h; exact is_any s w hs
set_option maxRecDepth 100000 in
set_option maxHeartbeats 1000000 in
theorem note_any (s : ByteArray) (w : World) (hs : s.size ≤ 140737488355328) (hT : Tabs w) :
    Calls Tryd.prog 29 #[.string s] w fun e w' => e = .returned (.bool (noteF s.data.toList)) ∧ Below w.heap.size w w' := by
  obtain ⟨r, hr⟩ : ∃ r, r = noteF s.data.toList := ⟨_, rfl⟩
  rw [← hr]
  unfold noteF at hr
  rw [b_len] at hr
  obtain ⟨c1, h1⟩ : ∃ c, (decide ((0 : Int) ≤ (s.size : Int)) && decide ((s.size : Int) ≤ 256)) = c := ⟨_, rfl⟩
  have H1 := Lib.hid (fun w => sized_is s 0 256 c1 w h1)
  obtain ⟨c2, h2⟩ : ∃ c, textOk s.data.toList = c := ⟨_, rfl⟩
  have H2 := Lib.hid (text_is s c2 w hs hT h2)
  have hd : decide (s.size ≤ 256) = c1 := by rw [← h1, Bool.eq_iff_iff]; simp; omega
  have HR := Lib.hid (show r = (c1 && c2) by rw [hr, hd, h2])
  clear hr hd h1 h2 hs hT
  rcases c1
  · go_enter Tryd.func29, Tryd.ntmps29
    go_wp2_with (go_at_call 49; (with_reducible refine (H1.out _).mono ?_); rintro e w1 ⟨rfl, rfl⟩)
    go_ret
    exact ⟨retBl (by rw [HR.out]; rfl), Below.refl _ _⟩
  · go_enter Tryd.func29, Tryd.ntmps29
    go_wp2_with (first
      | (go_at_call 49; (with_reducible refine (H1.out _).mono ?_); rintro e w1 ⟨rfl, rfl⟩)
      | (go_at_call 50; (with_reducible refine H2.out.mono ?_); rintro e w1 ⟨rfl, hb1⟩))
    go_ret
    exact ⟨retBl (by rw [HR.out]; rfl), hb1⟩

theorem retN {a b : Int} (h : a = b) : Ending.returned (.int .i64 a) = .returned (.int .i64 b) := by rw [h]

set_option maxRecDepth 100000 in
set_option maxHeartbeats 1000000 in
theorem refNote_any (s : ByteArray) (w : World) (hs : s.size ≤ 20000000000) :
    Calls Tryd.prog 44 #[.string s] w fun e w' => e = .returned (.bool (noteF s.data.toList)) ∧ Below w.heap.size w w' := by
  obtain ⟨r, hr⟩ : ∃ r, r = noteF s.data.toList := ⟨_, rfl⟩
  rw [← hr]
  unfold noteF at hr
  rw [b_len] at hr
  obtain ⟨c3, h3⟩ : ∃ c, textOk s.data.toList = c := ⟨_, rfl⟩
  have H3 := Lib.hid (is_is s c3 w hs h3)
  rw [h3] at hr
  have HR := Lib.hid hr
  clear hr h3 hs
  by_cases h2 : (s.size : Int) ≤ 256
  · have HX := Lib.hid (show r = c3 by rw [HR.out, decide_eq_true (p := s.size ≤ 256) (by omega)]; rfl)
    go_enter Tryd.func44, Tryd.ntmps44
    go_wp2_with (go_at_call 62; (with_reducible refine H3.out.mono ?_); rintro e w1 ⟨rfl, hb1⟩)
    go_ret
    exact ⟨retBl HX.out.symm, hb1⟩
  · have HX := Lib.hid (show r = false by rw [HR.out, decide_eq_false (p := s.size ≤ 256) (by omega)]; simp)
    go_enter Tryd.func44, Tryd.ntmps44
    go_wp2
    go_ret
    exact ⟨retBl HX.out.symm, Below.refl _ _⟩
end Go.Proofs.YtejooogfnnidcaaDoor
