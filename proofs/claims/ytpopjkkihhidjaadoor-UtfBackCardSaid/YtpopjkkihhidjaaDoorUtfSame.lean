/-
  The walk of the document's Same: two lists of runes.
-/
import Derived.Test.YtpopjkkihhidjaaDoorRunes
import Derived.Deep.QuietTactic
import Derived.BigQuiet
import Derived.WalkSmall
import Derived.Deep.LoopGhost
namespace Go.Proofs.YtpopjkkihhidjaaDoor
open Go.RowKit

theorem Runs.cell {w : World} {b off n c : Nat} {l : List Int} (h : Runs w (some ⟨b, off, none⟩) n c l) (j : Nat) (hj : j < n) : w.cell? ⟨b, off + j, none⟩ = some (.int .i32 (l.getD j 0)) := by
  rcases h.2.2.2 with ⟨h0, _⟩ | ⟨b', off', ha, hc⟩
  · omega
  · simp only [Option.some.injEq, Addr.mk.injEq, and_true] at ha
    obtain ⟨rfl, rfl⟩ := ha
    exact hc j hj
theorem Runs.some_ {w : World} {a : Option Addr} {n c : Nat} {l : List Int} (h : Runs w a n c l) (hn : 0 < n) : ∃ b off, a = some ⟨b, off, none⟩ := by
  rcases h.2.2.2 with ⟨h0, _⟩ | ⟨b, off, ha, _⟩
  · omega
  · exact ⟨b, off, ha⟩

theorem boolR {a b : Bool} (h : a = b) : Ending.returned (.bool a) = .returned (.bool b) := by rw [h]

theorem take_next_eq {l m : List Int} {j : Nat} (h : l.take j = m.take j) (hl : j < l.length) (hm : j < m.length) (he : l.getD j 0 = m.getD j 0) : l.take (j + 1) = m.take (j + 1) := by
  rw [List.take_succ_eq_append_getElem hl, List.take_succ_eq_append_getElem hm, h]
  simp [hl, hm] at he
  rw [he]
theorem ne_of_getD {l m : List Int} {j : Nat} (he : l.getD j 0 ≠ m.getD j 0) : l ≠ m := fun h => he (by rw [h])

set_option maxRecDepth 100000 in
set_option maxHeartbeats 1000000 in
theorem same_any (a : Option Addr) (n c : Nat) (l : List Int) (b : Option Addr) (m d : Nat) (k : List Int) (w : World) (ha : Runs w a n c l) (hb : Runs w b m d k) (hn : n ≤ 1000000000000) :
    Calls Tryd.prog 21 #[.slice a n c, .slice b m d] w fun e w' => e = .returned (.bool (decide (l = k))) ∧ Below w.heap.size w w' := by
  have hla := ha.1
  have hlb := hb.1
  by_cases hnm : n = m
  · subst hnm
    have HA := Lib.hid ha
    have HB := Lib.hid hb
    have HLA := Lib.hid hla
    have HLB := Lib.hid hlb
    have HI := Lib.hid (show l.take 0 = k.take 0 from rfl)
    have hnI : (n : Int) ≤ 1000000000000 := by omega
    clear ha hb hla hlb hn
    go_enter Tryd.func21, Tryd.ntmps21
    go_wp2
    go_loopg [5] n (fun g v5 W => ∃ j : Nat, Below w.heap.size w W ∧ v5 = .int .i64 j ∧ g + j = n ∧ Hid (l.take j = k.take j))
    case atStart => exact ⟨0, Below.refl _ _, rfl, rfl, HI⟩
    case round =>
      obtain ⟨j, hbw, rfl, hg, hinv⟩ := hrel
      have HG := Lib.hid hg
      have hj0 : (0 : Int) ≤ (j : Int) := by omega
      have hjI : (j : Int) ≤ (n : Int) := by omega
      by_cases hj : (j : Int) < (n : Int)
      · obtain ⟨ba, oa, rfl⟩ := HA.out.some_ (by omega)
        obtain ⟨bb, ob, rfl⟩ := HB.out.some_ (by omega)
        have ca := (HA.out.below hbw).cell j (by omega)
        have cb := (HB.out.below hbw).cell j (by omega)
        obtain ⟨x, hx⟩ : ∃ x, x = l.getD j 0 := ⟨_, rfl⟩
        obtain ⟨y, hy⟩ : ∃ y, y = k.getD j 0 := ⟨_, rfl⟩
        rw [← hx] at ca
        rw [← hy] at cb
        have HX := Lib.hid hx
        have HY := Lib.hid hy
        clear hx hy hg
        by_cases he : x = y
        · have HN := Lib.hid (take_next_eq hinv.out (by rw [HLA.out]; omega) (by rw [HLB.out]; omega) (by rw [← HX.out, ← HY.out, he]))
          have hd : (x != y) = false := by simp [he]
          clear he
          go_wp2
          go_quiet (fail)
          go_wp2
          go_roundg (gk - 1)
          case measure => have := HG.out; omega
          case rel => exact ⟨j + 1, below_drewN hbw _, by go_num, by have := HG.out; omega, HN⟩
        · have HN := Lib.hid (show l ≠ k from ne_of_getD (j := j) (by rw [← HX.out, ← HY.out]; exact he))
          have hd : (x != y) = true := by simpa using he
          clear he
          go_wp2
          go_quiet (fail)
          go_wp2
          go_ret
          exact ⟨boolR (decide_eq_false HN.out).symm, below_drewN hbw _⟩
      · have HE := Lib.hid (show l = k by
          have h1 := hinv.out
          rw [List.take_of_length_le (by rw [HLA.out]; omega), List.take_of_length_le (by rw [HLB.out]; omega)] at h1
          exact h1)
        clear hg
        go_wp2
        go_ret
        exact ⟨boolR (decide_eq_true HE.out).symm, hbw⟩
  · have HE := Lib.hid (show l ≠ k from fun h => hnm (by rw [← hla, ← hlb, h]))
    have hd : ((n : Int) != (m : Int)) = true := by simp; omega
    clear ha hb hla hlb hn hnm
    go_enter Tryd.func21, Tryd.ntmps21
    go_wp2
    go_ret
    exact ⟨boolR (decide_eq_false HE.out).symm, Below.refl _ _⟩
#print axioms same_any
end Go.Proofs.YtpopjkkihhidjaaDoor
