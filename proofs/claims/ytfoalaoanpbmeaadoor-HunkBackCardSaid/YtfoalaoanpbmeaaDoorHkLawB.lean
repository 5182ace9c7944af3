/-
  The law HunkBack, walked.
-/
import Derived.Test.YtfoalaoanpbmeaaDoorHkApply
namespace Go.Proofs.YtfoalaoanpbmeaaDoor
open Go.RowKit Go.Lib

theorem top_cases {s t : Ln} {Z : List HkV} {r : Nat} (h : topF s t = (Z, r)) : (r = 0 ∧ Z = hunksF (linesF s) (linesF t)) ∨ (r ≠ 0 ∧ Z = []) := by
  unfold topF at h
  split at h
  · split at h
    · cases h; exact .inr ⟨by decide, rfl⟩
    · cases h; exact .inl ⟨rfl, rfl⟩
  · cases h; exact .inr ⟨by decide, rfl⟩
set_option maxRecDepth 100000 in
set_option maxHeartbeats 4000000 in
theorem hunkBack_any (s t : ByteArray) (w : World) (hT : HTabs w) :
    Calls Tryd.prog 5 #[.string s, .string t] w fun e w' => e = .returned (.bool true) ∧ Below w.heap.size w w' := by
  have HT := Lib.hid hT
  clear hT
  by_cases hbig : (1000 : Int) < (s.size : Int)
  · have d1 : decide ((1000 : Int) < (s.size : Int)) = true := decide_eq_true hbig
    have d1n : decide (1000 < s.size) = true := decide_eq_true (by omega)
    clear hbig
    go_enter Tryd.func5, Tryd.ntmps5
    go_wp2
    go_ret
    exact ⟨rfl, Below.refl _ _⟩
  · have d1 : decide ((1000 : Int) < (s.size : Int)) = false := decide_eq_false hbig
    have d1n : decide (1000 < s.size) = false := decide_eq_false (by omega)
    by_cases hbig2 : (1000 : Int) < (t.size : Int)
    · have d2 : decide ((1000 : Int) < (t.size : Int)) = true := decide_eq_true hbig2
      have d2n : decide (1000 < t.size) = true := decide_eq_true (by omega)
      clear hbig hbig2
      go_enter Tryd.func5, Tryd.ntmps5
      go_wp2
      go_ret
      exact ⟨rfl, Below.refl _ _⟩
    · have d2 : decide ((1000 : Int) < (t.size : Int)) = false := decide_eq_false hbig2
      have d2n : decide (1000 < t.size) = false := decide_eq_false (by omega)
      have HTOP := Lib.hid (top_any s t w (by omega) (by omega) HT.out.tabs)
      obtain ⟨⟨Z, r⟩, hz⟩ : ∃ z, topF s.data.toList t.data.toList = z := ⟨_, rfl⟩
      have HSM : Hid (Gd 8192 1000 Z) := Lib.hid (by have h1 := top_small s.data.toList t.data.toList 1000 (by rw [← Lib.size_eq]; omega) (by rw [← Lib.size_eq]; omega); rw [hz] at h1; exact h1)
      have HSZ : Hid (s.size ≤ 1000 ∧ t.size ≤ 1000) := Lib.hid ⟨by omega, by omega⟩
      rw [hz] at HTOP
      have HZ := Lib.hid hz
      clear hbig hbig2 hz
      rcases top_cases HZ.out with ⟨rfl, hZe⟩ | ⟨hr, rfl⟩
      · obtain ⟨a2, o2, hrun, ha2, ho2⟩ := hunks_back (linesF s.data.toList) (linesF t.data.toList)
        rw [← hZe] at hrun
        rw [lines_flat] at ho2
        have HRUN := Lib.hid hrun
        have HA2 := Lib.hid ha2
        have HO2 : Hid (strB (o2 ++ midF (linesF s.data.toList) a2 (linesF s.data.toList).length) = t) := Lib.hid (by rw [ho2]; exact strB_of t)
        have HOL : Hid (o2.length ≤ 100000) := Lib.hid (by have h1 := congrArg List.length ho2; rw [List.length_append, ← Lib.size_eq] at h1; have h2 := HSZ.out.2; omega)
        obtain ⟨q, hq⟩ : ∃ q, (s.toList == t.toList) = q := ⟨_, rfl⟩
        have HNQ : Hid (((Z.length : Int) == 0) = q) := Lib.hid (by
          rw [← hq, Bool.eq_iff_iff, beq_iff_eq, beq_iff_eq, Lib.toList_data, Lib.toList_data]
          constructor
          · intro h
            have h1 : Z = [] := List.length_eq_zero_iff.1 (by omega)
            rw [h1] at hZe
            have h2 := hunks_nil hZe.symm
            rw [lines_flat, lines_flat] at h2; exact h2
          · intro h
            rw [hZe, h, hunks_same]; rfl)
        clear hZe hrun ha2 ho2
        go_enter Tryd.func5, Tryd.ntmps5
        go_wp2_with (first
          | (go_at_call 8; (with_reducible refine HTOP.out.mono ?_); rintro e w1 ⟨a5, c5, base, V, rfl, hv, hh, _, hb⟩; have hv' : V.map (·.1) = Z := hv; have HV := Lib.hid hv'; have HH := Lib.hid hh; have HB := Lib.hid hb; obtain ⟨N, hN⟩ : ∃ N, V.length = N := ⟨_, rfl⟩; rw [hN]; have HN := Lib.hid hN; have hnq : ((N : Int) == 0) = q := (by have h1 := HNQ.out; rw [← hv', List.length_map, hN] at h1; exact h1); clear hv hv' hh hb hN)
          | (go_at_call 18; (with_reducible refine (apply_yes s _ rfl a5 c5 base N V w1 HH.out HN.out a2 o2 (by rw [HV.out]; exact HRUN.out) HA2.out HSZ.out.1 HOL.out (by rw [HV.out]; exact HSM.out)).mono ?_); rintro e w2 ⟨rfl, hb⟩; rw [HO2.out]; have HB2 := Lib.hid (HB.out.trans (hb.mono HB.out.size)); clear hb; cases q)
          | (go_at_call 15; (with_reducible refine (awake_any w2 (HT.out.below HB2.out)).mono ?_); rintro e w5 ⟨rfl, hb⟩; have HB5 := Lib.hid (HB2.out.trans (hb.mono HB2.out.size)); clear hb))
        all_goals (go_ret; exact ⟨rfl, HB5.out⟩)
      · have hr2 : ¬ ((r : Int) = 0) := by omega
        have hr1 : ((r : Int) == 0) = false := by rw [beq_eq_false_iff_ne]; exact hr2
        go_enter Tryd.func5, Tryd.ntmps5
        go_wp2_with (first
          | (go_at_call 8; (with_reducible refine HTOP.out.mono ?_); rintro e w1 ⟨a5, c5, base, V, rfl, hv, hh, _, hb⟩; (obtain rfl : V = [] := (by simpa using hv)); have HB := Lib.hid hb; clear hv hh hb)
          | (go_at_call 15; (with_reducible refine (awake_any w1 (HT.out.below HB.out)).mono ?_); rintro e w5 ⟨rfl, hb⟩; have HB5 := Lib.hid (HB.out.trans (hb.mono HB.out.size)); clear hb))
        go_ret
        exact ⟨rfl, HB5.out⟩
#print axioms hunkBack_any
end Go.Proofs.YtfoalaoanpbmeaaDoor
