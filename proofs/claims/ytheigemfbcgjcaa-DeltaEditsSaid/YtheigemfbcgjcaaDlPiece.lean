/-
  The walk of piece.
-/
import Derived.Test.YtheigemfbcgjcaaDlSmall
namespace Go.Proofs.Ytheigemfbcgjcaa
open Go.RowKit

/-- A piece, told: its bytes lie somewhere. -/
def PieceIs (R : List UInt8 × Nat) (w : World) (e : Ending) (w' : World) : Prop := ∃ a n c, e = .returned (.tuple #[.slice a n c, .int .i64 (R.2 : Nat)]) ∧ Bytes w' a n c R.1 ∧ w = w'
set_option maxRecDepth 100000 in
set_option maxHeartbeats 2000000 in
theorem piece_any (a a' : Option Addr) (n c n' c' at_ : Nat) (A D : List UInt8) (w : World) (h : Bytes w a n c A) (h' : Bytes w a' n' c' D) (hat : at_ ≤ D.length) (hD : D.length ≤ 1000000) :
    Calls Try.prog 25 #[.slice a n c, .slice a' n' c', .int .i64 at_] w (PieceIs (pieceF A D at_) w) := by
  rcases hq1 : getI D (at_ : Int) with ⟨m, x1, e1⟩
  have HG1 := Lib.hid (get_any a' n' c' D at_ w h' m x1 e1 hq1)
  rcases getI_six hat hq1 with rfl | rfl
  · obtain ⟨hl1, hl2, hl3⟩ := getI_le hq1
    have hm0 : (0 : Int) ≤ (m : Int) := by omega
    have hmI : (m : Int) ≤ 9223372036854775807 := by omega
    have hq : (m : Int) / 2 = ((m / 2 : Nat) : Int) := by omega
    by_cases hev : m % 2 = 0
    · have e : pieceF A D at_ = (cutF D x1 (m / 2), x1 + m / 2) := by unfold pieceF; rw [hq1]; simp only [if_true]; rw [if_pos hev]
      rw [e]
      have hx : ((m : Int) % 2 == 0) = true := by rw [beq_iff_eq]; omega
      have HC := Lib.hid (cut_any a' n' c' x1 (m / 2) D w h' (by omega) (by omega))
      have W2 : IntKind.i64.wrap ((x1 : Int) + ((m / 2 : Nat) : Int)) = (x1 : Int) + ((m / 2 : Nat) : Int) := IntWalk.i64_in _ (by omega)
      clear h h' hq1 e hl1 hl2 hl3 hev hat hD
      generalize m / 2 = k at hq HC W2 ⊢
      go_enter Try.func25, Try.ntmps25
      go_wp2_with (first
        | (go_at_call 39; (with_reducible refine HG1.out.mono ?_); rintro e w1 ⟨rfl, rfl⟩)
        | (go_at_call 40; go_must (refine HC.out.mono ?_); rintro e w1 ⟨ak, nk, ck, rfl, hbk, rfl⟩; have HBK := Lib.hid hbk; clear hbk))
      go_ret2
      exact ⟨ak, nk, ck, rfl, HBK.out, rfl⟩
    · have hx : ((m : Int) % 2 == 0) = false := by rw [beq_eq_false_iff_ne]; omega
      rcases hq2 : getI D (x1 : Int) with ⟨p, x2, e2⟩
      have HG2 := Lib.hid (get_any a' n' c' D x1 w h' p x2 e2 hq2)
      rcases getI_six hl2 hq2 with rfl | rfl
      · have e : pieceF A D at_ = (cutF A p (m / 2), x2) := by unfold pieceF; rw [hq1]; simp only [if_true]; rw [if_neg hev, hq2]; rfl
        rw [e]
        obtain ⟨hl4, hl5, hl6⟩ := getI_le hq2
        have HC := Lib.hid (cut_any a n c p (m / 2) A w h (by omega) (by omega))
        clear h h' hq1 e hl1 hl2 hl3 hev hat hD hq2 hl4 hl5 hl6
        generalize m / 2 = k at hq HC ⊢
        go_enter Try.func25, Try.ntmps25
        go_wp2_with (first
          | (go_at_call 39; (with_reducible refine HG1.out.mono ?_); rintro e w1 ⟨rfl, rfl⟩)
          | (go_at_call 39; (with_reducible refine HG2.out.mono ?_); rintro e w1 ⟨rfl, rfl⟩)
          | (go_at_call 40; go_must (refine HC.out.mono ?_); rintro e w1 ⟨ak, nk, ck, rfl, hbk, rfl⟩; have HBK := Lib.hid hbk; clear hbk))
        go_ret2
        exact ⟨ak, nk, ck, rfl, HBK.out, rfl⟩
      · have e : pieceF A D at_ = ([], 0) := by unfold pieceF; rw [hq1]; simp only [if_true]; rw [if_neg hev, hq2]; rfl
        rw [e]
        clear h h' hq1 e hl1 hl2 hl3 hev hat hD hq2
        generalize m / 2 = k at hq ⊢
        go_enter Try.func25, Try.ntmps25
        go_wp2_with (first
          | (go_at_call 39; (with_reducible refine HG1.out.mono ?_); rintro e w1 ⟨rfl, rfl⟩)
          | (go_at_call 39; (with_reducible refine HG2.out.mono ?_); rintro e w1 ⟨rfl, rfl⟩))
        go_ret2
        exact ⟨none, 0, 0, rfl, Bytes.nil _, rfl⟩
  · have e : pieceF A D at_ = ([], 0) := by unfold pieceF; rw [hq1]; rfl
    rw [e]
    clear h h' hq1 e hat hD
    go_enter Try.func25, Try.ntmps25
    go_wp2_with (go_at_call 39; (with_reducible refine HG1.out.mono ?_); rintro e w1 ⟨rfl, rfl⟩)
    go_ret2
    exact ⟨none, 0, 0, rfl, Bytes.nil _, rfl⟩
#print axioms piece_any
end Go.Proofs.Ytheigemfbcgjcaa
