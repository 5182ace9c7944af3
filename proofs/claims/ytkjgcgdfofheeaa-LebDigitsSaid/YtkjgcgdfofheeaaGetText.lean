/-
  The walk of GetText: what stands at a place of bytes, read as a text.
-/
import Derived.Test.YtkjgcgdfofheeaaGet
namespace Go.Proofs.Ytkjgcgdfofheeaa
open Go.RowKit

/-- What GetText answers. -/
def getT (l : List UInt8) (at_ most : Int) : List UInt8 × Nat × Nat :=
  match getI l at_ with
  | (n, u, 0) => if most < n then ([], 0, 2) else if l.length < u + n then ([], 0, 6) else ((l.drop u).take n, u + n, 0)
  | (_, _, e + 1) => ([], 0, e + 1)

/-- A string's answer. -/
def TextIs (r : List UInt8 × Nat × Nat) (w : World) (e : Ending) (w' : World) : Prop :=
  e = .returned (.tuple #[.string (strB r.1), .int .i64 r.2.1, .int .i64 r.2.2]) ∧ w = w'

set_option maxRecDepth 100000 in
set_option maxHeartbeats 400000 in
theorem getText_any (a : Option Addr) (n c : Nat) (l : List UInt8) (at_ most : Int) (w : World) (hb : Bytes w a n c l) :
    Calls Try.prog 17 #[.slice a n c, .int .i64 at_, .int .i64 most] w (TextIs (getT l at_ most) w) := by
  have HB := Lib.hid hb
  have hn63 : n ≤ 9223372036854775807 := by obtain ⟨_, h1, h2, _⟩ := hb; omega
  obtain ⟨rn, ru, re, hR⟩ : ∃ rn ru re, getI l at_ = (rn, ru, re) := ⟨_, _, _, rfl⟩
  have hln := hb.1
  cases re with
  | succ re =>
    have hT : getT l at_ most = ([], 0, re + 1) := by unfold getT; rw [hR]
    have HT := Lib.hid hT
    have HR := Lib.hid hR
    have hne : ((re : Int) + 1 != 0) = true := by rw [bne_iff_ne]; omega
    clear hT hR hln hb
    go_enter Try.func17, Try.ntmps17
    go_wp2_with (go_at_call 15; refine (get_any _ _ _ _ _ _ HB.out _ _ _ HR.out).mono ?_; rintro e w1 ⟨rfl, rfl⟩)
    go_ret3
    exact ⟨by rw [HT.out]; rfl, rfl⟩
  | zero =>
    obtain ⟨h0, h1, h2, h3, _⟩ := getI_ok hR
    have hru : ru ≤ n := by omega
    have hrn : rn < 9223372036854775808 := by omega
    by_cases hm : most < rn
    · have hT : getT l at_ most = ([], 0, 2) := by unfold getT; rw [hR]; simp [hm]
      have HT := Lib.hid hT
      have HR := Lib.hid hR
      clear hT hR hln hb h0 h1 h2 h3
      go_enter Try.func17, Try.ntmps17
      go_wp2_with (go_at_call 15; refine (get_any _ _ _ _ _ _ HB.out _ _ _ HR.out).mono ?_; rintro e w1 ⟨rfl, rfl⟩)
      go_ret3
      exact ⟨by rw [HT.out]; rfl, rfl⟩
    · by_cases hl : n < ru + rn
      · have hT : getT l at_ most = ([], 0, 6) := by unfold getT; rw [hR]; simp only [if_neg hm]; rw [if_pos (by omega)]
        have HT := Lib.hid hT
        have HR := Lib.hid hR
        clear hT hR hln hb h0 h1 h2 h3
        go_enter Try.func17, Try.ntmps17
        go_wp2_with (go_at_call 15; refine (get_any _ _ _ _ _ _ HB.out _ _ _ HR.out).mono ?_; rintro e w1 ⟨rfl, rfl⟩)
        go_ret3
        exact ⟨by rw [HT.out]; rfl, rfl⟩
      · have hT : getT l at_ most = ((l.drop ru).take rn, ru + rn, 0) := by unfold getT; rw [hR]; simp only [if_neg hm]; rw [if_neg (by omega)]
        have HT := Lib.hid hT
        have HR := Lib.hid hR
        obtain ⟨b, off, rfl⟩ : ∃ b off, a = some ⟨b, off, none⟩ := by
          rcases hb.2.2.2 with ⟨h, _⟩ | ⟨b, off, rfl, _⟩
          · omega
          · exact ⟨b, off, rfl⟩
        have hS := run_str (hb.cut ru rn (by omega))
        have hnc := hb.2.1
        have hc63 := hb.2.2.1
        clear hT hR hln hb h0 h1 h2 h3
        by_cases hcu : c = ru
        · subst hcu
          obtain rfl : rn = 0 := by omega
          have hS0 := run_str (show Bytes w (some ⟨b, off, none⟩) 0 0 [] from ⟨rfl, Nat.le_refl _, by omega, .inr ⟨_, _, rfl, fun j hj => by omega⟩⟩)
          clear hS
          go_enter Try.func17, Try.ntmps17
          go_wp2_with (go_at_call 15; refine (get_any _ _ _ _ _ _ HB.out _ _ _ HR.out).mono ?_; rintro e w1 ⟨rfl, rfl⟩)
          go_ret3
          exact ⟨by rw [HT.out]; rfl, rfl⟩
        · go_enter Try.func17, Try.ntmps17
          go_wp2_with (go_at_call 15; refine (get_any _ _ _ _ _ _ HB.out _ _ _ HR.out).mono ?_; rintro e w1 ⟨rfl, rfl⟩)
          go_ret3
          exact ⟨by rw [HT.out]; rfl, rfl⟩

#print axioms getText_any
end Go.Proofs.Ytkjgcgdfofheeaa
