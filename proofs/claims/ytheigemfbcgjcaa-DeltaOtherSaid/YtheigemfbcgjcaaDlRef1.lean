/-
  The walk of the document's Sizes: both lengths, where the pieces begin.
-/
import Derived.Test.YtheigemfbcgjcaaDlSmall
import Derived.Test.YtheigemfbcgjcaaRefGet
namespace Go.Proofs.Ytheigemfbcgjcaa
open Go.RowKit

set_option maxRecDepth 100000 in
set_option maxHeartbeats 1000000 in
theorem refSizes_any (a : Option Addr) (n c : Nat) (D : List UInt8) (w : World) (h : Bytes w a n c D) (b t y er : Nat) (hZ : lenF D = (b, t, y, er)) :
    Calls Try.prog 15 #[.slice a n c] w fun e w' => e = .returned (.tuple #[.int .i64 (b : Nat), .int .i64 (t : Nat), .int .i64 (y : Nat), .int .i64 (er : Nat)]) ∧ w = w' := by
  rcases h1 : getI D 0 with ⟨p1, x1, r1⟩
  have H1 := Lib.hid (refGet_any a n c D 0 w h p1 x1 r1 h1)
  unfold lenF at hZ
  rw [h1] at hZ
  by_cases hr1 : r1 = 0
  · subst hr1
    rcases h2 : getI D (x1 : Nat) with ⟨p2, x2, r2⟩
    have H2 := Lib.hid (refGet_any a n c D (x1 : Nat) w h p2 x2 r2 h2)
    simp only [if_true] at hZ
    rw [h2] at hZ
    by_cases hr2 : r2 = 0
    · subst hr2
      simp only [if_true, Prod.mk.injEq] at hZ
      obtain ⟨rfl, rfl, rfl, rfl⟩ := hZ
      clear h h1 h2
      go_enter Try.func15, Try.ntmps15
      go_wp2_with (first | (go_at_call 26; (with_reducible refine H1.out.mono ?_); rintro e w1 ⟨rfl, rfl⟩) | (go_at_call 26; (with_reducible refine H2.out.mono ?_); rintro e w1 ⟨rfl, rfl⟩))
      refine bodyPost_ret (results_four rfl _ _ _) rfl ?_
      exact ⟨rfl, rfl⟩
    · have hb : ((r2 : Int) != 0) = true := by simp only [bne_iff_ne, ne_eq]; omega
      rw [if_neg hr2] at hZ
      simp only [Prod.mk.injEq] at hZ
      obtain ⟨rfl, rfl, rfl, rfl⟩ := hZ
      clear h h1 h2
      go_enter Try.func15, Try.ntmps15
      go_wp2_with (first | (go_at_call 26; (with_reducible refine H1.out.mono ?_); rintro e w1 ⟨rfl, rfl⟩) | (go_at_call 26; (with_reducible refine H2.out.mono ?_); rintro e w1 ⟨rfl, rfl⟩))
      refine bodyPost_ret (results_four rfl _ _ _) rfl ?_
      exact ⟨rfl, rfl⟩
  · have hb : ((r1 : Int) != 0) = true := by simp only [bne_iff_ne, ne_eq]; omega
    rw [if_neg hr1] at hZ
    simp only [Prod.mk.injEq] at hZ
    obtain ⟨rfl, rfl, rfl, rfl⟩ := hZ
    clear h h1
    go_enter Try.func15, Try.ntmps15
    go_wp2_with (go_at_call 26; (with_reducible refine H1.out.mono ?_); rintro e w1 ⟨rfl, rfl⟩)
    refine bodyPost_ret (results_four rfl _ _ _) rfl ?_
    exact ⟨rfl, rfl⟩
end Go.Proofs.Ytheigemfbcgjcaa
