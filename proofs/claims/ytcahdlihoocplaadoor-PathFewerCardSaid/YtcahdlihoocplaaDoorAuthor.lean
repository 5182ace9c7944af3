/-
  The walks of Author, Note and Bytes, the program's and the document's.
-/
import Derived.Test.YtcahdlihoocplaaDoorRunesOk
namespace Go.Proofs.YtcahdlihoocplaaDoor
open Go.RowKit

theorem Below.step {a b c : World} (h : Below a.heap.size a b) (k : Below b.heap.size b c) : Below a.heap.size a c := h.trans (k.mono h.size)
theorem text_is (s : ByteArray) (c : Bool) (w : World) (hs : s.size ≤ 140737488355328) (hT : Tabs w) (h : textOk s.data.toList = c) :
    Calls Tryd.prog 34 #[.string s] w fun e w' => e = .returned (.bool c) ∧ Below w.heap.size w w' := by subst h; exact text_any s w hs hT
theorem is_is (s : ByteArray) (c : Bool) (w : World) (hs : s.size ≤ 20000000000) (h : textOk s.data.toList = c) :
    Calls Tryd.prog 37 #[.string s] w fun e w' => e = .returned (.bool c) ∧ Below w.heap.size w w' := by subst h; exact is_any s w hs
theorem runes_is (s : ByteArray) (c : Bool) (w : World) (hs : s.size ≤ 20000000000) (h : runesOk s.data.toList = c) :
    Calls Tryd.prog 36 #[.string s] w fun e w' => e = .returned (.bool c) ∧ Below w.heap.size w w' := by subst h; exact runes_any_ok s w hs
theorem each_seen_is (s : ByteArray) (c : Bool) (w : World) (ht : textOk s.data.toList = true) (h : runesOk s.data.toList = c) :
    Calls Tryd.prog 32 #[.string s, .func (.func 35) #[] #[]] w fun e w' => e = .returned (.bool c) ∧ Below w.heap.size w w' := by
  subst h
  rcases runesF_cases s.data.toList with ⟨L, hL⟩ | ⟨p, hL⟩
  · rw [runesOk_some hL]; exact each_seen s L _ w hL
  · rw [textOk_none hL] at ht; cases ht

set_option maxRecDepth 100000 in
set_option maxHeartbeats 1000000 in
theorem author_any (s : ByteArray) (w : World) (hs : s.size ≤ 140737488355328) (hT : Tabs w) :
    Calls Tryd.prog 12 #[.string s] w fun e w' => e = .returned (.bool (authorF s.data.toList)) ∧ Below w.heap.size w w' := by
  obtain ⟨r, hr⟩ : ∃ r, r = authorF s.data.toList := ⟨_, rfl⟩
  rw [← hr]
  unfold authorF at hr
  rw [b_len] at hr
  obtain ⟨c1, h1⟩ : ∃ c, (decide ((1 : Int) ≤ (s.size : Int)) && decide ((s.size : Int) ≤ 32)) = c := ⟨_, rfl⟩
  have H1 := Lib.hid (fun w => sized_is s 1 32 c1 w h1)
  obtain ⟨c2, h2⟩ : ∃ c, textOk s.data.toList = c := ⟨_, rfl⟩
  have H2 := Lib.hid (text_is s c2 w hs hT h2)
  obtain ⟨c3, h3⟩ : ∃ c, runesOk s.data.toList = c := ⟨_, rfl⟩
  have hd : (decide (1 ≤ s.size) && decide (s.size ≤ 32)) = c1 := by
    rw [← h1, Bool.eq_iff_iff]; simp; omega
  have h23 : c2 = false → c3 = false := by
    rintro rfl
    cases c3 with
    | false => rfl
    | true => rw [runesOk_text h3] at h2; cases h2
  have HR := Lib.hid (show r = (c1 && c3) by rw [hr, hd, h3])
  clear hr hd h1
  rcases c1
  · clear h2 h3 h23 hs hT
    go_enter Tryd.func12, Tryd.ntmps12
    go_wp2_with (go_at_call 31; (with_reducible refine (H1.out _).mono ?_); rintro e w1 ⟨rfl, rfl⟩)
    go_ret
    exact ⟨retBl (by rw [HR.out]; rfl), Below.refl _ _⟩
  · rcases c2
    · have h3f := h23 rfl
      subst h3f
      clear h2 h3 h23 hs hT
      go_enter Tryd.func12, Tryd.ntmps12
      go_wp2_with (first
        | (go_at_call 31; (with_reducible refine (H1.out _).mono ?_); rintro e w1 ⟨rfl, rfl⟩)
        | (go_at_call 34; (with_reducible refine H2.out.mono ?_); rintro e w1 ⟨rfl, hb1⟩))
      go_ret
      exact ⟨retBl (by rw [HR.out]; rfl), hb1⟩
    · have H3 := Lib.hid (fun w => each_seen_is s c3 w h2 h3)
      clear h2 h3 h23 hs hT
      go_enter Tryd.func12, Tryd.ntmps12
      go_wp2_with (first
        | (go_at_call 31; (with_reducible refine (H1.out _).mono ?_); rintro e w1 ⟨rfl, rfl⟩)
        | (go_at_call 34; (with_reducible refine H2.out.mono ?_); rintro e w1 ⟨rfl, hb1⟩)
        | (go_at_call 32; (with_reducible refine (H3.out _).mono ?_); rintro e w2 ⟨rfl, hb2⟩))
      go_ret
      exact ⟨retBl (by rw [HR.out]; rfl), Below.step hb1 hb2⟩

set_option maxRecDepth 100000 in
set_option maxHeartbeats 1000000 in
theorem note_any (s : ByteArray) (w : World) (hs : s.size ≤ 140737488355328) (hT : Tabs w) :
    Calls Tryd.prog 14 #[.string s] w fun e w' => e = .returned (.bool (noteF s.data.toList)) ∧ Below w.heap.size w w' := by
  obtain ⟨r, hr⟩ : ∃ r, r = noteF s.data.toList := ⟨_, rfl⟩
  rw [← hr]
  unfold noteF at hr
  rw [b_len] at hr
  obtain ⟨c1, h1⟩ : ∃ c, (decide ((0 : Int) ≤ (s.size : Int)) && decide ((s.size : Int) ≤ 256)) = c := ⟨_, rfl⟩
  have H1 := Lib.hid (fun w => sized_is s 0 256 c1 w h1)
  obtain ⟨c2, h2⟩ : ∃ c, textOk s.data.toList = c := ⟨_, rfl⟩
  have H2 := Lib.hid (text_is s c2 w hs hT h2)
  have hd : decide (s.size ≤ 256) = c1 := by rw [← h1, Bool.eq_iff_iff]; simp; omega
  have HR := Lib.hid (show r = (c1 && c2) by rw [hr, hd, h2])
  clear hr hd h1 h2 hs hT
  rcases c1
  · go_enter Tryd.func14, Tryd.ntmps14
    go_wp2_with (go_at_call 31; (with_reducible refine (H1.out _).mono ?_); rintro e w1 ⟨rfl, rfl⟩)
    go_ret
    exact ⟨retBl (by rw [HR.out]; rfl), Below.refl _ _⟩
  · go_enter Tryd.func14, Tryd.ntmps14
    go_wp2_with (first
      | (go_at_call 31; (with_reducible refine (H1.out _).mono ?_); rintro e w1 ⟨rfl, rfl⟩)
      | (go_at_call 34; (with_reducible refine H2.out.mono ?_); rintro e w1 ⟨rfl, hb1⟩))
    go_ret
    exact ⟨retBl (by rw [HR.out]; rfl), hb1⟩

theorem retN {a b : Int} (h : a = b) : Ending.returned (.int .i64 a) = .returned (.int .i64 b) := by rw [h]

set_option maxRecDepth 100000 in
set_option maxHeartbeats 1000000 in
theorem bytes_any (s : ByteArray) (w : World) (hs : s.size ≤ 140737488355328) (hT : Tabs w) :
    Calls Tryd.prog 22 #[.string s] w fun e w' => e = .returned (.int .i64 (bytesF s.data.toList : Nat)) ∧ Below w.heap.size w w' := by
  obtain ⟨r, hr⟩ : ∃ r : Nat, r = bytesF s.data.toList := ⟨_, rfl⟩
  rw [← hr]
  unfold bytesF at hr
  rw [b_len] at hr
  obtain ⟨c2, h2⟩ : ∃ c, textOk s.data.toList = c := ⟨_, rfl⟩
  have H2 := Lib.hid (text_is s c2 w hs hT h2)
  rw [h2] at hr
  have HR := Lib.hid hr
  clear h2 hs hT hr
  by_cases h1 : (4096 : Int) < (s.size : Int)
  · have HX := Lib.hid (show r = 2 by rw [HR.out, if_pos (by omega)])
    go_enter Tryd.func22, Tryd.ntmps22
    go_wp2
    go_ret
    exact ⟨retN (by rw [HX.out]; rfl), Below.refl _ _⟩
  · have HX := Lib.hid (show r = if c2 = true then 0 else 5 by rw [HR.out, if_neg (by omega)])
    rcases c2
    · go_enter Tryd.func22, Tryd.ntmps22
      go_wp2_with (go_at_call 34; (with_reducible refine H2.out.mono ?_); rintro e w1 ⟨rfl, hb1⟩)
      go_ret
      exact ⟨retN (by rw [HX.out]; rfl), hb1⟩
    · go_enter Tryd.func22, Tryd.ntmps22
      go_wp2_with (go_at_call 34; (with_reducible refine H2.out.mono ?_); rintro e w1 ⟨rfl, hb1⟩)
      go_ret
      exact ⟨retN (by rw [HX.out]; rfl), hb1⟩

set_option maxRecDepth 100000 in
set_option maxHeartbeats 1000000 in
theorem refBytes7_any (s : ByteArray) (w : World) (hs : s.size ≤ 20000000000) :
    Calls Tryd.prog 23 #[.string s] w fun e w' => e = .returned (.int .i64 (bytesF s.data.toList : Nat)) ∧ Below w.heap.size w w' := by
  obtain ⟨r, hr⟩ : ∃ r : Nat, r = bytesF s.data.toList := ⟨_, rfl⟩
  rw [← hr]
  unfold bytesF at hr
  rw [b_len] at hr
  obtain ⟨c2, h2⟩ : ∃ c, textOk s.data.toList = c := ⟨_, rfl⟩
  have H2 := Lib.hid (is_is s c2 w hs h2)
  rw [h2] at hr
  have HR := Lib.hid hr
  clear h2 hs hr
  by_cases h1 : (4096 : Int) < (s.size : Int)
  · have HX := Lib.hid (show r = 2 by rw [HR.out, if_pos (by omega)])
    go_enter Tryd.func23, Tryd.ntmps23
    go_wp2
    go_ret
    exact ⟨retN (by rw [HX.out]; rfl), Below.refl _ _⟩
  · have HX := Lib.hid (show r = if c2 = true then 0 else 5 by rw [HR.out, if_neg (by omega)])
    rcases c2
    · go_enter Tryd.func23, Tryd.ntmps23
      go_wp2_with (go_at_call 37; (with_reducible refine H2.out.mono ?_); rintro e w1 ⟨rfl, hb1⟩)
      go_ret
      exact ⟨retN (by rw [HX.out]; rfl), hb1⟩
    · go_enter Tryd.func23, Tryd.ntmps23
      go_wp2_with (go_at_call 37; (with_reducible refine H2.out.mono ?_); rintro e w1 ⟨rfl, hb1⟩)
      go_ret
      exact ⟨retN (by rw [HX.out]; rfl), hb1⟩

set_option maxRecDepth 100000 in
set_option maxHeartbeats 1000000 in
theorem refAuthor_any (s : ByteArray) (w : World) (hs : s.size ≤ 20000000000) :
    Calls Tryd.prog 13 #[.string s] w fun e w' => e = .returned (.bool (authorF s.data.toList)) ∧ Below w.heap.size w w' := by
  obtain ⟨r, hr⟩ : ∃ r, r = authorF s.data.toList := ⟨_, rfl⟩
  rw [← hr]
  unfold authorF at hr
  rw [b_len] at hr
  obtain ⟨c3, h3⟩ : ∃ c, runesOk s.data.toList = c := ⟨_, rfl⟩
  have H3 := Lib.hid (runes_is s c3 w hs h3)
  rw [h3] at hr
  have HR := Lib.hid hr
  clear hr h3 hs
  by_cases h1 : (1 : Int) ≤ (s.size : Int)
  · by_cases h2 : (s.size : Int) ≤ 32
    · have HX := Lib.hid (show r = c3 by rw [HR.out, decide_eq_true (p := 1 ≤ s.size) (by omega), decide_eq_true (p := s.size ≤ 32) (by omega)]; rfl)
      go_enter Tryd.func13, Tryd.ntmps13
      go_wp2_with (go_at_call 36; (with_reducible refine H3.out.mono ?_); rintro e w1 ⟨rfl, hb1⟩)
      go_ret
      exact ⟨retBl HX.out.symm, hb1⟩
    · have HX := Lib.hid (show r = false by rw [HR.out, decide_eq_false (p := s.size ≤ 32) (by omega)]; simp)
      go_enter Tryd.func13, Tryd.ntmps13
      go_wp2
      go_ret
      exact ⟨retBl HX.out.symm, Below.refl _ _⟩
  · have HX := Lib.hid (show r = false by rw [HR.out, decide_eq_false (p := 1 ≤ s.size) (by omega)]; rfl)
    go_enter Tryd.func13, Tryd.ntmps13
    go_wp2
    go_ret
    exact ⟨retBl HX.out.symm, Below.refl _ _⟩

set_option maxRecDepth 100000 in
set_option maxHeartbeats 1000000 in
theorem refNote_any (s : ByteArray) (w : World) (hs : s.size ≤ 20000000000) :
    Calls Tryd.prog 15 #[.string s] w fun e w' => e = .returned (.bool (noteF s.data.toList)) ∧ Below w.heap.size w w' := by
  obtain ⟨r, hr⟩ : ∃ r, r = noteF s.data.toList := ⟨_, rfl⟩
  rw [← hr]
  unfold noteF at hr
  rw [b_len] at hr
  obtain ⟨c3, h3⟩ : ∃ c, textOk s.data.toList = c := ⟨_, rfl⟩
  have H3 := Lib.hid (is_is s c3 w hs h3)
  rw [h3] at hr
  have HR := Lib.hid hr
  clear hr h3 hs
  by_cases h2 : (s.size : Int) ≤ 256
  · have HX := Lib.hid (show r = c3 by rw [HR.out, decide_eq_true (p := s.size ≤ 256) (by omega)]; rfl)
    go_enter Tryd.func15, Tryd.ntmps15
    go_wp2_with (go_at_call 37; (with_reducible refine H3.out.mono ?_); rintro e w1 ⟨rfl, hb1⟩)
    go_ret
    exact ⟨retBl HX.out.symm, hb1⟩
  · have HX := Lib.hid (show r = false by rw [HR.out, decide_eq_false (p := s.size ≤ 256) (by omega)]; simp)
    go_enter Tryd.func15, Tryd.ntmps15
    go_wp2
    go_ret
    exact ⟨retBl HX.out.symm, Below.refl _ _⟩
end Go.Proofs.YtcahdlihoocplaaDoor
