/-
  The walks of two laws: which texts may name, which bytes may be a file's.
-/
import Derived.Test.YtcahdlihoocplaaDoorPathAwake
import Derived.Test.YtcahdlihoocplaaDoorRefName
import Derived.Test.YtcahdlihoocplaaDoorTexts
namespace Go.Proofs.YtcahdlihoocplaaDoor
open Go.RowKit

theorem refName_is (s : ByteArray) (c : Bool) (w : World) (h : nameF s.data.toList = c) :
    Calls Tryd.prog 11 #[.string s] w fun e w' => e = .returned (.bool c) ∧ Below w.heap.size w w' := by subst h; exact refName_any s w
theorem note_is (s : ByteArray) (c : Bool) (w : World) (hs : s.size ≤ 140737488355328) (hT : Tabs w) (h : noteF s.data.toList = c) :
    Calls Tryd.prog 14 #[.string s] w fun e w' => e = .returned (.bool c) ∧ Below w.heap.size w w' := by subst h; exact note_any s w hs hT
theorem refNote_is (s : ByteArray) (c : Bool) (w : World) (hs : s.size ≤ 20000000000) (h : noteF s.data.toList = c) :
    Calls Tryd.prog 15 #[.string s] w fun e w' => e = .returned (.bool c) ∧ Below w.heap.size w w' := by subst h; exact refNote_any s w hs
theorem refAuthor_is (s : ByteArray) (c : Bool) (w : World) (hs : s.size ≤ 20000000000) (h : authorF s.data.toList = c) :
    Calls Tryd.prog 13 #[.string s] w fun e w' => e = .returned (.bool c) ∧ Below w.heap.size w w' := by subst h; exact refAuthor_any s w hs
theorem bytes_is (s : ByteArray) (z : Int) (w : World) (hs : s.size ≤ 140737488355328) (hT : Tabs w) (h : ((bytesF s.data.toList : Nat) : Int) = z) :
    Calls Tryd.prog 22 #[.string s] w fun e w' => e = .returned (.int .i64 z) ∧ Below w.heap.size w w' := by subst h; exact bytes_any s w hs hT
theorem refBytes7_is (s : ByteArray) (z : Int) (w : World) (hs : s.size ≤ 20000000000) (h : ((bytesF s.data.toList : Nat) : Int) = z) :
    Calls Tryd.prog 23 #[.string s] w fun e w' => e = .returned (.int .i64 z) ∧ Below w.heap.size w w' := by subst h; exact refBytes7_any s w hs

set_option maxRecDepth 100000 in
set_option maxHeartbeats 1000000 in
theorem pathBytes_any (s : ByteArray) (w : World) (hT : PTabs w) : Calls Tryd.prog 4 #[.string s] w fun e w' => e = .returned (.bool true) ∧ Below w.heap.size w w' := by
  by_cases h1 : (6000 : Int) < (s.size : Int)
  · clear hT
    go_enter Tryd.func4, Tryd.ntmps4
    go_wp2
    go_ret
    exact ⟨rfl, Below.refl _ _⟩
  · have hs : s.size ≤ 6000 := by omega
    have HT := Lib.hid hT
    obtain ⟨z, hz⟩ : ∃ z : Int, ((bytesF s.data.toList : Nat) : Int) = z := ⟨_, rfl⟩
    have H1 := Lib.hid (fun W hT => bytes_is s z W (by omega) hT hz)
    have H2 := Lib.hid (fun W => refBytes7_is s z W (by omega) hz)
    clear hz hT hs
    go_enter Tryd.func4, Tryd.ntmps4
    go_wp2_with (first
      | (go_at_call 22; (with_reducible refine (H1.out _ HT.out.tabs).mono ?_); rintro e w1 ⟨rfl, hb1⟩; have HB1 := Lib.hid hb1; clear hb1)
      | (go_at_call 23; (with_reducible refine (H2.out _).mono ?_); rintro e w2 ⟨rfl, hb2⟩; have HB2 := Lib.hid (Below.step HB1.out hb2); clear hb2)
      | (go_at_call 21; (with_reducible refine (awake_any _ (HT.out.below HB2.out)).mono ?_); rintro e w3 ⟨rfl, hb3⟩; have HB3 := Lib.hid (Below.step HB2.out hb3); clear hb3))
    go_ret
    exact ⟨rfl, HB3.out⟩

set_option maxRecDepth 100000 in
set_option maxHeartbeats 1000000 in
theorem pathNames_any (s : ByteArray) (w : World) (hT : PTabs w) : Calls Tryd.prog 3 #[.string s] w fun e w' => e = .returned (.bool true) ∧ Below w.heap.size w w' := by
  by_cases h1 : (400 : Int) < (s.size : Int)
  · clear hT
    go_enter Tryd.func3, Tryd.ntmps3
    go_wp2
    go_ret
    exact ⟨rfl, Below.refl _ _⟩
  · have hs : s.size ≤ 400 := by omega
    have HT := Lib.hid hT
    obtain ⟨c1, h1'⟩ : ∃ c, nameF s.data.toList = c := ⟨_, rfl⟩
    obtain ⟨c2, h2'⟩ : ∃ c, authorF s.data.toList = c := ⟨_, rfl⟩
    obtain ⟨c3, h3'⟩ : ∃ c, noteF s.data.toList = c := ⟨_, rfl⟩
    obtain ⟨c4, h4'⟩ : ∃ c, pathF s.data.toList = c := ⟨_, rfl⟩
    obtain ⟨L, hL⟩ : ∃ L, L = partsF s.data.toList := ⟨_, rfl⟩
    have A1 := Lib.hid (fun W => name_is s c1 W h1')
    have B1 := Lib.hid (fun W => refName_is s c1 W h1')
    have A2 := Lib.hid (fun W hT => author_is s c2 W (by omega) hT h2')
    have B2 := Lib.hid (fun W => refAuthor_is s c2 W (by omega) h2')
    have A3 := Lib.hid (fun W hT => note_is s c3 W (by omega) hT h3')
    have B3 := Lib.hid (fun W => refNote_is s c3 W (by omega) h3')
    have A4 := Lib.hid (fun W hT => path_is s c4 W (by omega) hT h4')
    have B4 := Lib.hid (fun W => refPath_is s c4 W (by omega) h4')
    have A5 := Lib.hid (fun W hT => parts_any s W (by omega) hT)
    have B5 := Lib.hid (fun W => refParts_any s W (by omega))
    have HLL := Lib.hid (show L.length ≤ 401 by
      rw [hL]
      unfold partsF
      split
      · have := pcs_length s.data.toList; rw [b_len] at this; omega
      · simp)
    unfold PartsIs at A5
    rw [← hL] at A5 B5
    clear h1' h2' h3' h4' hL hT hs
    go_enter Tryd.func3, Tryd.ntmps3
    go_wp2_with (first
      | (go_at_call 10; (with_reducible refine (A1.out _).mono ?_); rintro e w1 ⟨rfl, hb1⟩; have HB1 := Lib.hid hb1; clear hb1)
      | (go_at_call 11; (with_reducible refine (B1.out _).mono ?_); rintro e w2 ⟨rfl, hb2⟩; have HB2 := Lib.hid (Below.step HB1.out hb2); clear hb2)
      | (go_at_call 12; (with_reducible refine (A2.out _ (HT.out.below HB2.out).tabs).mono ?_); rintro e w3 ⟨rfl, hb3⟩; have HB3 := Lib.hid (Below.step HB2.out hb3); clear hb3)
      | (go_at_call 13; (with_reducible refine (B2.out _).mono ?_); rintro e w4 ⟨rfl, hb4⟩; have HB4 := Lib.hid (Below.step HB3.out hb4); clear hb4)
      | (go_at_call 14; (with_reducible refine (A3.out _ (HT.out.below HB4.out).tabs).mono ?_); rintro e w5 ⟨rfl, hb5⟩; have HB5 := Lib.hid (Below.step HB4.out hb5); clear hb5)
      | (go_at_call 15; (with_reducible refine (B3.out _).mono ?_); rintro e w6 ⟨rfl, hb6⟩; have HB6 := Lib.hid (Below.step HB5.out hb6); clear hb6)
      | (go_at_call 16; (with_reducible refine (A4.out _ (HT.out.below HB6.out).tabs).mono ?_); rintro e w7 ⟨rfl, hb7⟩; have HB7 := Lib.hid (Below.step HB6.out hb7); clear hb7)
      | (go_at_call 17; (with_reducible refine (B4.out _).mono ?_); rintro e w8 ⟨rfl, hb8⟩; have HB8 := Lib.hid (Below.step HB7.out hb8); clear hb8)
      | (go_at_call 19; (with_reducible refine (A5.out _ (HT.out.below HB8.out).tabs).mono ?_); rintro e w9 ⟨a9, n9, d9, rfl, ho9, hi9, hb9⟩; have HB9 := Lib.hid (Below.step HB8.out hb9); have HO9 := Lib.hid ho9; clear hb9 ho9 hi9)
      | (go_at_call 20; (with_reducible refine (B5.out _).mono ?_); rintro e w10 ⟨a10, n10, d10, rfl, ho10, hb10⟩; have HB10 := Lib.hid (Below.step HB9.out hb10); have HO10 := Lib.hid ho10; have HOX := Lib.hid (HO9.out.below hb10); have HTX := Lib.hid (texts_any a9 n9 d9 L a10 n10 d10 L w10 HOX.out.at1 HO10.out.at1 (by have := HOX.out.len; have := HLL.out; omega)); rw [decide_eq_true rfl] at HTX; clear hb10 ho10)
      | (go_at_call 18; (with_reducible refine HTX.out.mono ?_); rintro e w11 ⟨rfl, hb11⟩; have HB11 := Lib.hid (Below.step HB10.out hb11); clear hb11)
      | (go_at_call 21; (with_reducible refine (awake_any _ (HT.out.below HB11.out)).mono ?_); rintro e w12 ⟨rfl, hb12⟩; have HB12 := Lib.hid (Below.step HB11.out hb12); clear hb12))
    go_ret
    exact ⟨rfl, HB12.out⟩
#print axioms pathNames_any
end Go.Proofs.YtcahdlihoocplaaDoor
