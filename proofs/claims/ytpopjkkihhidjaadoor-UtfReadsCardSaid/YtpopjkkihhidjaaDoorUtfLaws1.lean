/-
  The walks of UtfEncodes, UtfDecodes, UtfWrites, UtfCuts.
-/
import Derived.Test.YtpopjkkihhidjaaDoorUtfAwake
import Derived.Test.YtpopjkkihhidjaaDoorUtfRefCut
namespace Go.Proofs.YtpopjkkihhidjaaDoor
open Go.RowKit

theorem encodes_yes (V : Int) (n : Nat) (h : V = (n : Int)) (hm : mayF n = true) (w : World) (hT : Tabs w) :
    Calls Tryd.prog 3 #[.int .i32 V] w fun e w' => e = .returned (.bool true) ∧ Below w.heap.size w w' := by
  have hv : Lib.validRune V = true := by rw [h, valid_nat]; exact hm
  have HC := fun W => Lib.hid (encode_yes V n h hm W)
  have HM := fun W => Lib.hid (refMay_is V true hv W)
  have HB := fun W => Lib.hid (refBytes_z V n h hm W)
  have HT := Lib.hid hT
  clear hT h hm hv
  go_enter Tryd.func3, Tryd.ntmps3
  go_wp2_with (first
    | (go_at_call 11; go_must (refine (HC _).out.mono ?_); rintro e w1 ⟨rfl, rfl⟩)
    | (go_at_call 12; go_must (refine (HM _).out.mono ?_); rintro e w1 ⟨rfl, rfl⟩)
    | (go_at_call 14; go_must (refine (HB _).out.mono ?_); rintro e w2 ⟨a2, n2, c2, rfl, ho2, hb2⟩; have hs2 := run_str ho2.isBytes; clear ho2)
    | (go_at_call 13; go_must (refine (awake_any _ (HT.out.below hb2)).mono ?_); rintro e w3 ⟨rfl, hb3⟩))
  go_ret
  exact ⟨rfl, hb2.trans (hb3.mono hb2.size)⟩

theorem encodes_no (V : Int) (hv : Lib.validRune V = false) (w : World) (hT : Tabs w) :
    Calls Tryd.prog 3 #[.int .i32 V] w fun e w' => e = .returned (.bool true) ∧ Below w.heap.size w w' := by
  have HC := fun W => Lib.hid (encode_bad V hv W)
  have HM := fun W => Lib.hid (refMay_is V false hv W)
  have HT := Lib.hid hT
  clear hT hv
  have he : strB [] = (⟨#[]⟩ : ByteArray) := rfl
  rw [he] at HC
  clear he
  go_enter Tryd.func3, Tryd.ntmps3
  go_wp2_with (first
    | (go_at_call 11; go_must (refine (HC _).out.mono ?_); rintro e w1 ⟨rfl, rfl⟩)
    | (go_at_call 12; go_must (refine (HM _).out.mono ?_); rintro e w1 ⟨rfl, rfl⟩)
    | (go_at_call 13; go_must (refine (awake_any _ HT.out).mono ?_); rintro e w3 ⟨rfl, hb3⟩))
  go_ret
  exact ⟨rfl, hb3⟩

theorem encodes_any (V : Int) (w : World) (hT : Tabs w) :
    Calls Tryd.prog 3 #[.int .i32 V] w fun e w' => e = .returned (.bool true) ∧ Below w.heap.size w w' := by
  by_cases hv : Lib.validRune V = true
  · obtain ⟨n, h, hm⟩ := valid_of V hv
    exact encodes_yes V n h hm w hT
  · exact encodes_no V (by simpa using hv) w hT
#print axioms encodes_any

set_option maxRecDepth 100000 in
set_option maxHeartbeats 400000 in
theorem decodes_any (s : ByteArray) (at_ : Int) (w : World) (hs : s.size ≤ 140737488355328) (hT : Tabs w) :
    Calls Tryd.prog 4 #[.string s, .int .i64 at_] w fun e w' => e = .returned (.bool true) ∧ Below w.heap.size w w' := by
  obtain ⟨V, X, E, hR⟩ : ∃ (V X E : Int), ∀ (w w' : World) e, DecIs (decE s.data.toList at_) w e w' → e = .returned (.tuple #[.int .i32 V, .int .i64 X, .int .i64 E]) ∧ Below w.heap.size w w' := ⟨_, _, _, fun _ _ _ h => h⟩
  have HD := fun W h => Lib.hid ((decode_any s at_ W hs h).mono fun _ _ h => hR _ _ _ h)
  have HR := fun W => Lib.hid ((refDecode_any s at_ W hs).mono fun _ _ h => hR _ _ _ h)
  have HT := Lib.hid hT
  clear hT hs hR
  go_enter Tryd.func4, Tryd.ntmps4
  go_wp2_with (first
    | (go_at_call 15; go_must (refine (HD _ HT.out).out.mono ?_); rintro e w1 ⟨rfl, hb1⟩)
    | (go_at_call 16; go_must (refine (HR _).out.mono ?_); rintro e w2 ⟨rfl, hb2⟩; have hb3 := hb1.trans (hb2.mono hb1.size))
    | (go_at_call 13; go_must (refine (awake_any _ (HT.out.below hb3)).mono ?_); rintro e w4 ⟨rfl, hb4⟩))
  go_ret
  exact ⟨rfl, hb3.trans (hb4.mono hb3.size)⟩
#print axioms decodes_any

theorem ownR_empty (w : World) : OwnR (w.alloc (.cells #[] 21)) w.heap.size (.slice (some ⟨w.heap.size, 0, none⟩) 0 0) [] :=
  World.ownsRow_lit w #[] 0 (Nat.le_refl _) (by unfold maxLen; omega) rfl

set_option maxRecDepth 100000 in
set_option maxHeartbeats 400000 in
theorem writes_any (a : Option Addr) (n c : Nat) (l : List Int) (w : World) (h : Runs w a n c l) (hT : Tabs w) :
    Calls Tryd.prog 6 #[.slice a n c] w fun e w' => e = .returned (.bool true) ∧ Below w.heap.size w w' := by
  by_cases hn : (n : Int) ≤ 5000
  · obtain ⟨x, y, hxy⟩ : ∃ x y, txtE l = (x, y) := ⟨_, _, rfl⟩
    have hbel : Below w.heap.size w (w.alloc (.cells #[] 21)) := (Below.refl _ _).alloc (Nat.le_refl _) _
    have HB := Lib.hid (h.below hbel)
    have HO := Lib.hid (ownR_empty w)
    have HBL := Lib.hid hbel
    have HT := Lib.hid hT
    have HL := Lib.hid h.1
    have HR := Lib.hid h
    have HX := Lib.hid hxy
    clear hT h hbel hxy
    go_enter Tryd.func6, Tryd.ntmps6
    go_wp2_with (first
      | ((with_reducible show wpList _ _ _ (⟨some 13, _, _, _, _, _⟩ :: _) _ _); go_must (refine app_runs rfl (.tmp 11) (.tmp 12) rfl w.heap.size _ [] rfl HO.out a n c l rfl HB.out (by simp; omega) (by simp) ?_); intro v1 w1 hown1 hgr1; have hb1 := HBL.out.grown hgr1 (by simp) HO.out.grown; obtain ⟨a1, n1, c1, rfl, hr1⟩ := hown1.runs; have HR1 := Lib.hid hr1; clear hown1 hgr1 hr1)
      | (go_at_call 22; go_must (refine (text_any _ _ _ l _ HR1.out (by have h1 := HR1.out.1; have h2 := HL.out; simp at h1; omega)).mono ?_); rintro e w2 ⟨he, hb2⟩; rw [HX.out] at he; subst he; have hb3 := hb1.trans (hb2.mono hb1.size))
      | (go_at_call 23; go_must (refine (refText_any _ _ _ l _ (HR.out.below hb3) (by omega)).mono ?_); rintro e w4 ⟨he, hb4⟩; rw [HX.out] at he; subst he; have hb5 := hb3.trans (hb4.mono hb3.size))
      | (go_at_call 13; go_must (refine (awake_any _ (HT.out.below hb5)).mono ?_); rintro e w6 ⟨rfl, hb6⟩))
    go_ret
    exact ⟨rfl, hb5.trans (hb6.mono hb5.size)⟩
  · have hd : decide (5000 < (n : Int)) = true := by simp; omega
    clear hT h
    go_enter Tryd.func6, Tryd.ntmps6
    go_wp2
    go_ret
    exact ⟨rfl, Below.refl _ _⟩
#print axioms writes_any

set_option maxRecDepth 100000 in
set_option maxHeartbeats 400000 in
theorem cuts_any (s : ByteArray) (f t : Int) (w : World) (hT : Tabs w) :
    Calls Tryd.prog 7 #[.string s, .int .i64 f, .int .i64 t] w fun e w' => e = .returned (.bool true) ∧ Below w.heap.size w w' := by
  by_cases hn : (s.size : Int) ≤ 5000
  · obtain ⟨x, y, hxy⟩ : ∃ x y, cutE s.data.toList f t = (x, y) := ⟨_, _, rfl⟩
    have HT := Lib.hid hT
    have HX := Lib.hid hxy
    clear hT hxy
    go_enter Tryd.func7, Tryd.ntmps7
    go_wp2_with (first
      | (go_at_call 24; go_must (refine (cut_any s f t _ (by omega) HT.out).mono ?_); rintro e w2 ⟨he, hb3⟩; rw [HX.out] at he; subst he)
      | (go_at_call 25; go_must (refine (refCut_any s f t _ (by omega)).mono ?_); rintro e w4 ⟨he, hb4⟩; rw [HX.out] at he; subst he; have hb5 := hb3.trans (hb4.mono hb3.size))
      | (go_at_call 13; go_must (refine (awake_any _ (HT.out.below hb5)).mono ?_); rintro e w6 ⟨rfl, hb6⟩))
    go_ret
    exact ⟨rfl, hb5.trans (hb6.mono hb5.size)⟩
  · have hd : decide (5000 < (s.size : Int)) = true := by simp; omega
    clear hT
    go_enter Tryd.func7, Tryd.ntmps7
    go_wp2
    go_ret
    exact ⟨rfl, Below.refl _ _⟩
#print axioms cuts_any
end Go.Proofs.YtpopjkkihhidjaaDoor
