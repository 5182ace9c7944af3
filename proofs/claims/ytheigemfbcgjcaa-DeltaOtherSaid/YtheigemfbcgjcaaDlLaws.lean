/-
  The laws DeltaBack, DeltaOther, DeltaApplies, walked.
-/
import Derived.Test.YtheigemfbcgjcaaDlAwake
import Derived.Test.YtheigemfbcgjcaaDlRefApp
import Derived.Test.YtheigemfbcgjcaaDlRefMake
import Derived.Test.YtheigemfbcgjcaaShaCopy
namespace Go.Proofs.Ytheigemfbcgjcaa
open Go.RowKit Go.Lib

theorem strB_self (l : List UInt8) : ((strB l).toList == (strB l).toList) = true := by simp
theorem aw_below {w W : World} (hB : Below w.heap.size w W) : Calls Try.prog 11 #[] W fun e w' => e = .returned (.bool true) ∧ Below w.heap.size w w' :=
  (awake_any W).mono fun _ _ h => ⟨h.1, hB.trans (h.2.mono hB.size)⟩
/-- What Apply answers, told. -/
def AppTo (R : List UInt8) (er : Nat) (w : World) (e : Ending) (w' : World) : Prop := ∃ a n c, e = .returned (.tuple #[.slice a n c, .int .i64 (er : Nat)]) ∧ Own w' w.heap.size (.slice a n c) R ∧ Below w.heap.size w w'
theorem apply_to (a a' : Option Addr) (n c n' c' : Nat) (A D : List UInt8) (w : World) (h : Bytes w a n c A) (h' : Bytes w a' n' c' D) (hD : D.length ≤ 1000000) {R : List UInt8} {er : Nat} (hr : applyF A D = (R, er)) :
    Calls Try.prog 12 #[.slice a n c, .slice a' n' c'] w (AppTo R er w) := by
  have h1 := apply_any a a' n c n' c' A D w h h' hD
  rw [hr] at h1
  exact h1
theorem refApply_to (a a' : Option Addr) (n c n' c' : Nat) (A D : List UInt8) (w : World) (h : Bytes w a n c A) (h' : Bytes w a' n' c' D) (hD : D.length ≤ 1000000) {R : List UInt8} {er : Nat} (hr : applyF A D = (R, er)) :
    Calls Try.prog 13 #[.slice a n c, .slice a' n' c'] w (AppTo R er w) := by
  have h1 := refApply_any a a' n c n' c' A D w h h' hD
  rw [hr] at h1
  exact h1

set_option maxRecDepth 100000 in
set_option maxHeartbeats 2000000 in
theorem deltaBack_any (a a' : Option Addr) (n c n' c' : Nat) (b t : List UInt8) (w : World) (h : Bytes w a n c b) (h' : Bytes w a' n' c' t) :
    Calls Try.prog 5 #[.slice a n c, .slice a' n' c'] w fun e w' => e = .returned (.bool true) ∧ Below w.heap.size w w' := by
  have HA := Lib.hid h
  have HT := Lib.hid h'
  have hla := h.1
  have hlt := h'.1
  by_cases hbig : (5000 : Int) < (n : Int)
  · have d1 : decide ((5000 : Int) < (n : Int)) = true := decide_eq_true hbig
    clear h h' hla hlt
    go_enter Try.func5, Try.ntmps5
    go_wp2
    go_ret
    exact ⟨rfl, Below.refl _ _⟩
  · have d1 : decide ((5000 : Int) < (n : Int)) = false := decide_eq_false hbig
    have d1n : decide (5000 < n) = false := decide_eq_false (by omega)
    by_cases hbig2 : (5000 : Int) < (n' : Int)
    · have d2 : decide ((5000 : Int) < (n' : Int)) = true := decide_eq_true hbig2
      clear h h' hla hlt
      go_enter Try.func5, Try.ntmps5
      go_wp2
      go_ret
      exact ⟨rfl, Below.refl _ _⟩
    · have d2 : decide ((5000 : Int) < (n' : Int)) = false := decide_eq_false hbig2
      have d2n : decide (5000 < n') = false := decide_eq_false (by omega)
      obtain ⟨D, hD⟩ : ∃ D, makeF b t = D := ⟨_, rfl⟩
      have hml := make_length b t (by omega) (by omega)
      have hap := apply_make b t (by omega) (by omega)
      have hlf := make_lenF b t (by omega) (by omega)
      rw [hD] at hml hap hlf
      obtain ⟨y, hy⟩ : ∃ y, (numF b.length).length + (numF t.length).length = y := ⟨_, rfl⟩
      rw [hy, hla, hlt] at hlf
      have HAP := Lib.hid hap
      have HLF := Lib.hid hlf
      have HDE := Lib.hid hD
      have HN : Hid (n ≤ 5000 ∧ n' ≤ 5000 ∧ D.length ≤ 2 * n' + 18) := Lib.hid ⟨by omega, by omega, by omega⟩
      obtain ⟨m2, hm2⟩ : ∃ q, 2 * n' = q := ⟨_, rfl⟩
      obtain ⟨m3, hm3⟩ : ∃ q, m2 + 18 = q := ⟨_, rfl⟩
      have W1 : IntKind.i64.wrap (2 * (n' : Int)) = (m2 : Int) := by rw [IntWalk.i64_in _ (by omega)]; omega
      have W2 : IntKind.i64.wrap ((m2 : Int) + 18) = (m3 : Int) := by rw [IntWalk.i64_in _ (by omega)]; omega
      have HM : Hid (D.length ≤ m3) := Lib.hid (by omega)
      have hsq := strB_self t
      clear h h' hla hlt hbig hbig2 hD hml hap hlf hy hm2 hm3
      go_enter Try.func5, Try.ntmps5
      go_wp2_with (first
        | (go_at_call 8; go_must (refine (make_any _ _ _ _ _ _ b t _ HA.out HT.out (by have := HN.out; omega) (by have := HN.out; omega)).mono ?_); rintro e w1 ⟨a1, n1, c1, rfl, ho, hb⟩; rw [HDE.out] at ho; have HO1 := Lib.hid ho.isBytes; have HB1 := Lib.hid hb; have HL1 := Lib.hid ho.len; have hle : decide ((n1 : Int) ≤ (m3 : Int)) = true := decide_eq_true (by have h1 := HM.out; have h2 := HL1.out; omega); have hlen : decide (n1 ≤ m3) = true := decide_eq_true (by have h1 := HM.out; have h2 := HL1.out; omega); clear ho hb)
        | (go_at_call 12; go_must (refine (apply_to _ _ _ _ _ _ b D w1 (HA.out.below HB1.out) HO1.out (by have := HN.out; omega) HAP.out).mono ?_); rintro e w2 ⟨a2, n2, c2, rfl, ho, hb⟩; have HB2 := Lib.hid (HB1.out.trans (hb.mono HB1.out.size)); have HO2 := Lib.hid (HO1.out.below hb); have hs1 := run_str ho.isBytes 9 Try.underlying9; have hs2 := run_str (HT.out.below HB2.out) 9 Try.underlying9; clear ho hb)
        | (go_at_call 14; go_must (refine (sizes_any _ _ _ D w2 HO2.out n n' y 0 HLF.out).mono ?_); rintro e w3 ⟨rfl, rfl⟩)
        | (go_at_call 11; go_must (refine (aw_below HB2.out).mono ?_); rintro e w4 ⟨rfl, hb⟩; have HB4 := Lib.hid hb; clear hb))
      go_ret
      exact ⟨rfl, HB4.out⟩

set_option maxRecDepth 100000 in
set_option maxHeartbeats 2000000 in
theorem deltaOther_any (a a' a3 : Option Addr) (n c n' c' n3 c3 : Nat) (b o t : List UInt8) (w : World) (h : Bytes w a n c b) (h' : Bytes w a' n' c' o) (h3 : Bytes w a3 n3 c3 t) :
    Calls Try.prog 7 #[.slice a n c, .slice a' n' c', .slice a3 n3 c3] w fun e w' => e = .returned (.bool true) ∧ Below w.heap.size w w' := by
  have HA := Lib.hid h
  have HO := Lib.hid h'
  have HT := Lib.hid h3
  have HL : Hid (b.length = n ∧ o.length = n' ∧ t.length = n3) := Lib.hid ⟨h.1, h'.1, h3.1⟩
  clear h h' h3
  by_cases hbig : (2000 : Int) < (n : Int)
  · have d1 : decide ((2000 : Int) < (n : Int)) = true := decide_eq_true hbig
    go_enter Try.func7, Try.ntmps7
    go_wp2
    go_ret
    exact ⟨rfl, Below.refl _ _⟩
  · have d1 : decide ((2000 : Int) < (n : Int)) = false := decide_eq_false hbig
    have d1n : decide (2000 < n) = false := decide_eq_false (by omega)
    by_cases hbig2 : (2000 : Int) < (n' : Int)
    · have d2 : decide ((2000 : Int) < (n' : Int)) = true := decide_eq_true hbig2
      go_enter Try.func7, Try.ntmps7
      go_wp2
      go_ret
      exact ⟨rfl, Below.refl _ _⟩
    · have d2 : decide ((2000 : Int) < (n' : Int)) = false := decide_eq_false hbig2
      have d2n : decide (2000 < n') = false := decide_eq_false (by omega)
      by_cases hbig3 : (2000 : Int) < (n3 : Int)
      · have d3 : decide ((2000 : Int) < (n3 : Int)) = true := decide_eq_true hbig3
        go_enter Try.func7, Try.ntmps7
        go_wp2
        go_ret
        exact ⟨rfl, Below.refl _ _⟩
      · have d3 : decide ((2000 : Int) < (n3 : Int)) = false := decide_eq_false hbig3
        have d3n : decide (2000 < n3) = false := decide_eq_false (by omega)
        by_cases hq : (n : Int) = (n' : Int)
        · have d4 : ((n : Int) == (n' : Int)) = true := by rw [beq_iff_eq]; exact hq
          clear hq
          go_enter Try.func7, Try.ntmps7
          go_wp2
          go_ret
          exact ⟨rfl, Below.refl _ _⟩
        · have d4 : ((n : Int) == (n' : Int)) = false := by rw [beq_eq_false_iff_ne]; exact hq
          have hl := HL.out
          obtain ⟨D, hD⟩ : ∃ D, makeF b t = D := ⟨_, rfl⟩
          have hap := apply_other b o t (by omega) (by omega) (by omega)
          have hml := make_length b t (by omega) (by omega)
          rw [hD] at hap hml
          have HAP := Lib.hid hap
          have HDE := Lib.hid hD
          have HN : Hid (n ≤ 2000 ∧ n3 ≤ 2000 ∧ D.length ≤ 5000) := Lib.hid ⟨by omega, by omega, by omega⟩
          clear hl hq hbig hbig2 hbig3 hD hap hml
          go_enter Try.func7, Try.ntmps7
          go_wp2_with (first
            | (go_at_call 8; go_must (refine (make_any _ _ _ _ _ _ b t _ HA.out HT.out (by have := HN.out; omega) (by have := HN.out; omega)).mono ?_); rintro e w1 ⟨a1, n1, c1, rfl, ho, hb⟩; rw [HDE.out] at ho; have HO1 := Lib.hid ho.isBytes; have HB1 := Lib.hid hb; clear ho hb)
            | (go_at_call 12; go_must (refine (apply_to _ _ _ _ _ _ o D w1 (HO.out.below HB1.out) HO1.out (by have := HN.out; omega) HAP.out).mono ?_); rintro e w2 ⟨a2, n2, c2, rfl, ho, hb⟩; obtain rfl : n2 = 0 := ho.len; have HB2 := Lib.hid (HB1.out.trans (hb.mono HB1.out.size)); clear ho hb)
            | (go_at_call 11; go_must (refine (aw_below HB2.out).mono ?_); rintro e w4 ⟨rfl, hb⟩; have HB4 := Lib.hid hb; clear hb))
          go_ret
          exact ⟨rfl, HB4.out⟩

set_option maxRecDepth 100000 in
set_option maxHeartbeats 2000000 in
theorem deltaApplies_any (a a' : Option Addr) (n c n' c' : Nat) (b d : List UInt8) (w : World) (h : Bytes w a n c b) (h' : Bytes w a' n' c' d) :
    Calls Try.prog 4 #[.slice a n c, .slice a' n' c'] w fun e w' => e = .returned (.bool true) ∧ Below w.heap.size w w' := by
  have HA := Lib.hid h
  have HT := Lib.hid h'
  have HL : Hid (b.length = n ∧ d.length = n') := Lib.hid ⟨h.1, h'.1⟩
  clear h h'
  by_cases hbig : (2000 : Int) < (n : Int)
  · have d1 : decide ((2000 : Int) < (n : Int)) = true := decide_eq_true hbig
    go_enter Try.func4, Try.ntmps4
    go_wp2
    go_ret
    exact ⟨rfl, Below.refl _ _⟩
  · have d1 : decide ((2000 : Int) < (n : Int)) = false := decide_eq_false hbig
    have d1n : decide (2000 < n) = false := decide_eq_false (by omega)
    by_cases hbig2 : (2000 : Int) < (n' : Int)
    · have d2 : decide ((2000 : Int) < (n' : Int)) = true := decide_eq_true hbig2
      go_enter Try.func4, Try.ntmps4
      go_wp2
      go_ret
      exact ⟨rfl, Below.refl _ _⟩
    · have d2 : decide ((2000 : Int) < (n' : Int)) = false := decide_eq_false hbig2
      have d2n : decide (2000 < n') = false := decide_eq_false (by omega)
      rcases hr : applyF b d with ⟨R, er⟩
      rcases hlf : lenF d with ⟨x, y, z, el⟩
      have HR := Lib.hid hr
      have HLF := Lib.hid hlf
      have HN : Hid (n ≤ 2000 ∧ n' ≤ 2000) := Lib.hid ⟨by omega, by omega⟩
      have hsq := strB_self R
      clear hr hlf hbig hbig2
      go_enter Try.func4, Try.ntmps4
      go_wp2_with (first
        | (go_at_call 9; (with_reducible refine (copy_any a n c b w HA.out (by have h1 := HL.out; have h2 := HN.out; omega)).mono ?_); rintro e w1 ⟨a1, n1, c1, rfl, ho, hb⟩; have HO1 := Lib.hid ho.isBytes; have HB1 := Lib.hid hb; clear ho hb)
        | (go_at_call 9; (with_reducible refine (copy_any a' n' c' d w1 (HT.out.below HB1.out) (by have h1 := HL.out; have h2 := HN.out; omega)).mono ?_); rintro e w2 ⟨a2, n2, c2, rfl, ho, hb⟩; have HO2 := Lib.hid ho.isBytes; have HP2 := Lib.hid (HO1.out.below hb); have HB2 := Lib.hid (HB1.out.trans (hb.mono HB1.out.size)); clear ho hb)
        | (go_at_call 12; go_must (refine (apply_to _ _ _ _ _ _ b d w2 HP2.out HO2.out (by have h1 := HL.out; have h2 := HN.out; omega) HR.out).mono ?_); rintro e w3 ⟨a3, n3, c3, rfl, ho, hb⟩; have HO3 := Lib.hid ho.isBytes; have HB3 := Lib.hid (HB2.out.trans (hb.mono HB2.out.size)); clear ho hb)
        | (go_at_call 13; go_must (refine (refApply_to _ _ _ _ _ _ b d w3 (HA.out.below HB3.out) (HT.out.below HB3.out) (by have h1 := HL.out; have h2 := HN.out; omega) HR.out).mono ?_); rintro e w4 ⟨a4, n4, c4, rfl, ho, hb⟩; have HO4 := Lib.hid ho.isBytes; have HP4 := Lib.hid (HO3.out.below hb); have HB4 := Lib.hid (HB3.out.trans (hb.mono HB3.out.size)); clear ho hb)
        | (go_at_call 9; (with_reducible refine (copy_any a' n' c' d w4 (HT.out.below HB4.out) (by have h1 := HL.out; have h2 := HN.out; omega)).mono ?_); rintro e w5 ⟨a5, n5, c5, rfl, ho, hb⟩; have HO5 := Lib.hid ho.isBytes; have HB5 := Lib.hid (HB4.out.trans (hb.mono HB4.out.size)); have hs1 := run_str (HP4.out.below hb) 9 Try.underlying9; have hs2 := run_str (HO4.out.below hb) 9 Try.underlying9; clear ho hb)
        | (go_at_call 14; go_must (refine (sizes_any _ _ _ d w5 HO5.out x y z el HLF.out).mono ?_); rintro e w6 ⟨rfl, rfl⟩)
        | (go_at_call 15; go_must (refine (refSizes_any _ _ _ d w5 (HT.out.below HB5.out) x y z el HLF.out).mono ?_); rintro e w7 ⟨rfl, rfl⟩)
        | (go_at_call 11; go_must (refine (aw_below HB5.out).mono ?_); rintro e w8 ⟨rfl, hb⟩; have HB8 := Lib.hid hb; clear hb))
      go_ret
      exact ⟨rfl, HB8.out⟩
#print axioms deltaApplies_any
end Go.Proofs.Ytheigemfbcgjcaa
