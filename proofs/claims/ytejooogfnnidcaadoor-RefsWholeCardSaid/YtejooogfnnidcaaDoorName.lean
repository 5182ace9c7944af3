/-
  The walk of Name.
-/
import Derived.Test.YtejooogfnnidcaaDoorEachNamed
namespace Go.Proofs.YtejooogfnnidcaaDoor
open Go.RowKit

theorem each_named_is (s : ByteArray) (c : Bool) (w : World) (h : s.data.toList.all nmB = c) :
    Calls Tryd.prog 67 #[.string s, .func (.func 66) #[] #[]] w fun e w' => e = .returned (.bool c) ∧ Below w.heap.size w w' := by subst h; exact each_named s w

theorem nameF_eq (s : List UInt8) : nameF s = (decide (1 ≤ s.length) && decide (s.length ≤ 32) && s.all nmB && s.getD 0 0 != 46 && s.getD 0 0 != 45 && s != [72, 69, 65, 68]) := rfl

set_option maxRecDepth 100000 in
set_option maxHeartbeats 1000000 in
theorem name_any (s : ByteArray) (w : World) :
    Calls Tryd.prog 57 #[.string s] w fun e w' => e = .returned (.bool (nameF s.data.toList)) ∧ Below w.heap.size w w' := by
  obtain ⟨r, hr⟩ : ∃ r, r = nameF s.data.toList := ⟨_, rfl⟩
  rw [← hr]
  rw [nameF_eq, b_len] at hr
  have HR := Lib.hid hr
  clear hr
  obtain ⟨c1, h1⟩ : ∃ c, (decide ((1 : Int) ≤ (s.size : Int)) && decide ((s.size : Int) ≤ 32)) = c := ⟨_, rfl⟩
  have H1 := Lib.hid (fun w => sized_is s 1 32 c1 w h1)
  obtain ⟨c2, h2⟩ : ∃ c, s.data.toList.all nmB = c := ⟨_, rfl⟩
  have H2 := Lib.hid (fun w => each_named_is s c2 w h2)
  have E1 := Lib.hid h1
  have E2 := Lib.hid h2
  rcases c1
  · clear h1 h2
    go_enter Tryd.func57, Tryd.ntmps57
    go_wp2_with (go_at_call 49; (with_reducible refine (H1.out _).mono ?_); rintro e w1 ⟨rfl, rfl⟩)
    go_ret
    refine ⟨retBl ?_, Below.refl _ _⟩
    symm
    rw [HR.out]
    have := E1.out
    simp only [Bool.and_eq_false_iff, decide_eq_false_iff_not] at this
    rcases this with h | h
    · rw [decide_eq_false (p := 1 ≤ s.size) (by omega)]; rfl
    · rw [decide_eq_false (p := s.size ≤ 32) (by omega)]; simp
  · simp only [Bool.and_eq_true, decide_eq_true_eq] at h1
    have h0 : 0 < s.size := by omega
    have h0I : (0 : Int) < (s.size : Int) := by omega
    have E1 := Lib.hid h1
    rcases c2
    · clear h1 h2
      go_enter Tryd.func57, Tryd.ntmps57
      go_wp2_with (first
        | (go_at_call 49; (with_reducible refine (H1.out _).mono ?_); rintro e w1 ⟨rfl, rfl⟩)
        | (go_at_call 67; (with_reducible refine (H2.out _).mono ?_); rintro e w1 ⟨rfl, hb⟩))
      go_ret
      refine ⟨retBl ?_, hb⟩
      rw [HR.out, E2.out]; simp
    · have hat := b_at s 0 h0
      have HH := Lib.hid (show r = (s.data.toList.getD 0 0 != 46 && s.data.toList.getD 0 0 != 45 && s.data.toList != [72, 69, 65, 68]) by
        rw [HR.out, E2.out, decide_eq_true (p := 1 ≤ s.size) (by omega), decide_eq_true (p := s.size ≤ 32) (by omega)]; rfl)
      by_cases g1 : ((s[0]'h0).toNat : Int) = 46
      · have HX := Lib.hid (show r = false by
          rw [HH.out, ← hat, show (s[0]'h0) = 46 from by apply UInt8.toNat_inj.1; show (s[0]'h0).toNat = 46; omega]; rfl)
        clear h1 h2 hat
        go_enter Tryd.func57, Tryd.ntmps57
        go_wp2_with (first
          | (go_at_call 49; (with_reducible refine (H1.out _).mono ?_); rintro e w1 ⟨rfl, rfl⟩)
          | (go_at_call 67; (with_reducible refine (H2.out _).mono ?_); rintro e w1 ⟨rfl, hb⟩))
        go_ret
        exact ⟨retBl HX.out.symm, hb⟩
      · have n1 : ((s[0]'h0) != 46) = true := by rw [bne_iff_ne]; intro e; apply g1; rw [e]; rfl
        by_cases g2 : ((s[0]'h0).toNat : Int) = 45
        · have HX := Lib.hid (show r = false by
            rw [HH.out, ← hat, show (s[0]'h0) = 45 from by apply UInt8.toNat_inj.1; show (s[0]'h0).toNat = 45; omega]; rfl)
          have g3 : (((s[0]'h0).toNat : Int) != 46) = true := by rw [bne_iff_ne]; exact g1
          clear h1 h2 hat
          go_enter Tryd.func57, Tryd.ntmps57
          go_wp2_with (first
            | (go_at_call 49; (with_reducible refine (H1.out _).mono ?_); rintro e w1 ⟨rfl, rfl⟩)
            | (go_at_call 67; (with_reducible refine (H2.out _).mono ?_); rintro e w1 ⟨rfl, hb⟩))
          go_ret
          exact ⟨retBl HX.out.symm, hb⟩
        · have n2 : ((s[0]'h0) != 45) = true := by rw [bne_iff_ne]; intro e; apply g2; rw [e]; rfl
          have g3 : (((s[0]'h0).toNat : Int) != 46) = true := by rw [bne_iff_ne]; exact g1
          have g4 : (((s[0]'h0).toNat : Int) != 45) = true := by rw [bne_iff_ne]; exact g2
          have HX := Lib.hid (show r = !(s.toList == [72, 69, 65, 68]) by
            rw [HH.out, ← hat, n1, n2, Lib.toList_data]; rfl)
          clear h1 h2 hat
          go_enter Tryd.func57, Tryd.ntmps57
          go_wp2_with (first
            | (go_at_call 49; (with_reducible refine (H1.out _).mono ?_); rintro e w1 ⟨rfl, rfl⟩)
            | (go_at_call 67; (with_reducible refine (H2.out _).mono ?_); rintro e w1 ⟨rfl, hb⟩))
          go_ret
          exact ⟨retBl (by rw [HX.out]), hb⟩
#print axioms name_any
end Go.Proofs.YtejooogfnnidcaaDoor
