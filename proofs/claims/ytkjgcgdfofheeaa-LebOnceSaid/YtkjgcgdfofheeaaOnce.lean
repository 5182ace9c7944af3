/-
  LebOnce: bytes that are read as a number are just those that are written for it.
-/
import Derived.Test.YtkjgcgdfofheeaaAwake
import Derived.StillTailTactics
import Derived.BigQuiet
namespace Go.Proofs.Ytkjgcgdfofheeaa
open Go.RowKit

set_option maxRecDepth 100000 in
set_option maxHeartbeats 400000 in
theorem once_err (a : Option Addr) (n c : Nat) (l : List UInt8) (w : World) (hb : Bytes w a n c l) (rn ru re : Nat) (hR : getI l 0 = (rn, ru, re)) (he : re ≠ 0) :
    Calls Try.prog 7 #[.slice a n c] w fun e w' => e = .returned (.bool true) ∧ Below w.heap.size w w' := by
  obtain ⟨rfl, rfl⟩ := getI_err hR he
  have HB := Lib.hid hb
  have HR := Lib.hid hR
  have hne : ((re : Int) != 0) = true := by rw [bne_iff_ne]; omega
  clear hb hR he
  go_enter Try.func7, Try.ntmps7
  go_wp2_with (first | (go_at_call 15; go_must (refine (get_any _ _ _ _ _ _ HB.out _ _ _ HR.out).mono ?_); rintro e w1 ⟨rfl, rfl⟩) | (go_at_call 11; go_must (refine (awake_any _).mono ?_); rintro e w1 ⟨rfl, hbel⟩))
  go_ret
  exact ⟨rfl, hbel⟩

set_option maxRecDepth 100000 in
set_option maxHeartbeats 400000 in
theorem once_ok (b off n c : Nat) (l : List UInt8) (w : World) (hb : Bytes w (some ⟨b, off, none⟩) n c l) (rn ru : Nat) (hR : getI l 0 = (rn, ru, 0)) :
    Calls Try.prog 7 #[.slice (some ⟨b, off, none⟩) n c] w fun e w' => e = .returned (.bool true) ∧ Below w.heap.size w w' := by
  obtain ⟨_, h1, h2, h3, h4⟩ := getI_ok hR
  have hln := hb.1
  have hnc := hb.2.1
  have hc63 := hb.2.2.1
  have hru1 : 1 ≤ ru := by simp at h1; omega
  have hrun : ru ≤ n := by omega
  have hcut : (l.take ru) = numF rn := by simpa using h4
  have hcutB : Bytes w (some ⟨b, off, none⟩) ru c (l.take ru) := by
    have := hb.cut 0 ru (by omega)
    simpa using this
  rw [hcut] at hcutB
  have HB := Lib.hid hb
  have HC := Lib.hid hcutB
  have HR := Lib.hid hR
  clear hb hR h4 hcut hcutB h1 h2 hln
  go_enter Try.func7, Try.ntmps7
  go_wp2_with (first | (go_at_call 15; go_must (refine (get_any _ _ _ _ _ _ HB.out _ _ _ HR.out).mono ?_); rintro e w1 ⟨rfl, rfl⟩) | (go_at_call 9; go_must (refine (put_any none 0 0 rn [] _ (Bytes.nil _) (by omega) (by simp)).mono ?_); rintro e w1 ⟨a2, n2, c2, rfl, hown, hbel⟩))
  rw [List.nil_append] at hown
  have hI1 : (1 : Int) ≤ (ru : Int) := by omega
  have hI2 : (ru : Int) ≤ (n : Int) := by omega
  have hI3 : (0 : Int) ≤ (ru : Int) := by omega
  have hI4 : (ru : Int) ≤ (c : Int) := by omega
  have hs1 := run_str (hown.isBytes.below (Below.refl _ _).drew)
  have hs2 := run_str ((HC.out.below hbel).below (Below.refl _ _).drew)
  go_still_tail 22, (by kernel_rfl)
  change wpList _ _ _ _ _ w1.drew
  have hbelD : Below w.heap.size w w1.drew := hbel.drew
  have hszD := hbelD.size
  generalize w1.drew = w2 at hbelD hszD ⊢
  clear hs1 hs2 hown hbel
  go_wp2_with (go_at_call 11; go_must (refine (awake_any _).mono ?_); rintro e w3 ⟨rfl, hbel3⟩)
  go_ret
  exact ⟨rfl, hbelD.trans (hbel3.mono hszD)⟩

/-- Whatever the bytes: the answer is true, and what was there stands. -/
theorem once_any (a : Option Addr) (n c : Nat) (l : List UInt8) (w : World) (hb : Bytes w a n c l) :
    Calls Try.prog 7 #[.slice a n c] w fun e w' => e = .returned (.bool true) ∧ Below w.heap.size w w' := by
  obtain ⟨rn, ru, re, hR⟩ : ∃ rn ru re, getI l 0 = (rn, ru, re) := ⟨_, _, _, rfl⟩
  by_cases he : re = 0
  · subst he
    rcases hb.2.2.2 with ⟨hn, _⟩ | ⟨b, off, rfl, _⟩
    · have := (getI_ok hR).2.1
      have := (getI_ok hR).2.2.1
      have := hb.1
      omega
    · exact once_ok b off n c l w hb rn ru hR
  · exact once_err a n c l w hb rn ru re hR he
#print axioms once_any
end Go.Proofs.Ytkjgcgdfofheeaa
