/-
  The walk of the program's Apply.
-/
import Derived.Test.YtheigemfbcgjcaaDlPiece
namespace Go.Proofs.Ytheigemfbcgjcaa
open Go.RowKit

/-- The pieces from a place on, one behind the other; so many at most. -/
def runF (base d : List UInt8) (size : Nat) : Nat → Nat → List UInt8 → Option (List UInt8)
  | 0, _, _ => none
  | f + 1, at_, out =>
    if at_ < d.length then
      if (pieceF base d at_).1 = [] ∨ size < out.length + (pieceF base d at_).1.length then none
      else runF base d size f (pieceF base d at_).2 (out ++ (pieceF base d at_).1)
    else if out.length < size then none else some out
def endF : Option (List UInt8) → List UInt8 × Nat
  | none => ([], 6)
  | some t => (t, 0)
/-- The target, an error's number. -/
def applyF (base d : List UInt8) : List UInt8 × Nat :=
  if (lenF d).2.2.2 ≠ 0 then ([], 6)
  else if 262144 < (lenF d).2.1 then ([], 2)
  else if (lenF d).1 ≠ base.length then ([], 6)
  else endF (runF base d (lenF d).2.1 (d.length + 1) (lenF d).2.2.1 [])
theorem cut_le {b : List UInt8} {at_ k : Nat} (h : cutF b at_ k ≠ []) : at_ + k ≤ b.length ∧ (cutF b at_ k).length = k ∧ 0 < k := by
  unfold cutF at *
  split at h
  · exact absurd rfl h
  · rename_i h1
    rw [if_neg h1]
    have hl : ((b.drop at_).take k).length = k := by rw [List.length_take, List.length_drop]; omega
    refine ⟨by omega, hl, ?_⟩
    rcases Nat.eq_zero_or_pos k with h2 | h2
    · subst h2; simp at h
    · exact h2
theorem piece_even {base d : List UInt8} {at_ m x1 : Nat} (h : getI d (at_ : Int) = (m, x1, 0)) (hm : m % 2 = 0) : pieceF base d at_ = (cutF d x1 (m / 2), x1 + m / 2) := by unfold pieceF; rw [h]; simp only [if_true]; rw [if_pos hm]
theorem piece_odd {base d : List UInt8} {at_ m x1 p x2 : Nat} (h : getI d (at_ : Int) = (m, x1, 0)) (hm : ¬ m % 2 = 0) (h2 : getI d (x1 : Int) = (p, x2, 0)) : pieceF base d at_ = (cutF base p (m / 2), x2) := by unfold pieceF; rw [h]; simp only [if_true]; rw [if_neg hm, h2]; rfl
theorem piece_not {base d : List UInt8} {at_ m x1 p x2 e : Nat} (h : getI d (at_ : Int) = (m, x1, 0)) (hm : ¬ m % 2 = 0) (h2 : getI d (x1 : Int) = (p, x2, e)) (he : e ≠ 0) : pieceF base d at_ = ([], 0) := by unfold pieceF; rw [h]; simp only [if_true]; rw [if_neg hm, h2]; exact if_neg he
theorem piece_none {base d : List UInt8} {at_ m x1 e : Nat} (h : getI d (at_ : Int) = (m, x1, e)) (he : e ≠ 0) : pieceF base d at_ = ([], 0) := by unfold pieceF; rw [h]; exact if_neg he
theorem piece_next {base d : List UInt8} {at_ : Nat} (h : at_ ≤ d.length) (hp : (pieceF base d at_).1 ≠ []) : at_ < (pieceF base d at_).2 ∧ (pieceF base d at_).2 ≤ d.length := by
  rcases hq1 : getI d (at_ : Int) with ⟨m, x1, e1⟩
  rcases getI_six h hq1 with rfl | rfl
  · obtain ⟨h1, h2, h3⟩ := getI_le hq1
    by_cases hev : m % 2 = 0
    · rw [piece_even hq1 hev] at hp ⊢
      have := cut_le hp
      exact ⟨by simp only; omega, by simp only; omega⟩
    · rcases hq2 : getI d (x1 : Int) with ⟨p, x2, e2⟩
      rcases getI_six h2 hq2 with rfl | rfl
      · rw [piece_odd hq1 hev hq2]
        have := getI_le hq2
        exact ⟨by simp only; omega, by simp only; omega⟩
      · rw [piece_not hq1 hev hq2 (by decide)] at hp; exact absurd rfl hp
  · rw [piece_none hq1 (by decide)] at hp; exact absurd rfl hp
/-- What Apply answers. -/
def AppIs (R : List UInt8 × Nat) (w : World) (e : Ending) (w' : World) : Prop := ∃ a n c, e = .returned (.tuple #[.slice a n c, .int .i64 (R.2 : Nat)]) ∧ Own w' w.heap.size (.slice a n c) R.1 ∧ Below w.heap.size w w'
theorem app_no (e : Nat) (w w' : World) (h : Below w.heap.size w w') : AppIs ([], e) w (.returned (.tuple #[.slice none 0 0, .int .i64 (e : Nat)])) w' := ⟨none, 0, 0, rfl, Own.nil _ _, h⟩
theorem len_le {d : List UInt8} {b t y : Nat} (h : lenF d = (b, t, y, 0)) : y ≤ d.length ∧ b < 9223372036854775808 ∧ t < 9223372036854775808 := by
  rcases hq1 : getI d 0 with ⟨b1, x1, e1⟩
  rcases getI_six (at_ := 0) (Nat.zero_le _) hq1 with rfl | rfl
  · rcases hq2 : getI d (x1 : Int) with ⟨b2, x2, e2⟩
    have hx1 := (getI_le (at_ := 0) hq1)
    rcases getI_six hx1.2.1 hq2 with rfl | rfl
    · have h2 := getI_le hq2
      unfold lenF at h
      rw [hq1] at h; simp only [if_true] at h; rw [hq2] at h; simp only [if_true, Prod.mk.injEq] at h
      omega
    · unfold lenF at h
      rw [hq1] at h; simp only [if_true] at h; rw [hq2] at h; simp at h
  · unfold lenF at h
    rw [hq1] at h; simp at h
theorem len_er {d : List UInt8} {b t y e : Nat} (h : lenF d = (b, t, y, e)) : e = 0 ∨ e = 6 := by
  unfold lenF at h
  split at h
  · split at h
    · simp only [Prod.mk.injEq] at h; exact .inl h.2.2.2.symm
    · simp only [Prod.mk.injEq] at h; exact .inr h.2.2.2.symm
  · simp only [Prod.mk.injEq] at h; exact .inr h.2.2.2.symm
theorem run_end {base d : List UInt8} {size g at_ : Nat} {out : List UInt8} {Z : Option (List UInt8)} (h : runF base d size g at_ out = Z) (hg : d.length + 1 ≤ g + at_) (hl : at_ = d.length) : (if out.length < size then none else some out) = Z := by
  obtain ⟨f, rfl⟩ : ∃ f, g = f + 1 := ⟨g - 1, by omega⟩
  unfold runF at h
  rw [if_neg (by omega)] at h
  exact h
theorem run_bad {base d : List UInt8} {size g at_ : Nat} {out : List UInt8} {Z : Option (List UInt8)} (h : runF base d size g at_ out = Z) (hl : at_ < d.length) (hb : (pieceF base d at_).1 = [] ∨ size < out.length + (pieceF base d at_).1.length) : Z = none := by
  cases g with
  | zero => exact h.symm
  | succ f =>
    unfold runF at h
    rw [if_pos hl, if_pos hb] at h
    exact h.symm
theorem run_step {base d : List UInt8} {size g at_ : Nat} {out : List UInt8} {Z : Option (List UInt8)} (h : runF base d size g at_ out = Z) (hg : d.length + 1 ≤ g + at_) (hl : at_ < d.length) (hb : ¬ ((pieceF base d at_).1 = [] ∨ size < out.length + (pieceF base d at_).1.length)) :
    runF base d size (g - 1) (pieceF base d at_).2 (out ++ (pieceF base d at_).1) = Z := by
  obtain ⟨f, rfl⟩ : ∃ f, g = f + 1 := ⟨g - 1, by omega⟩
  unfold runF at h
  rw [if_pos hl, if_neg hb] at h
  exact h
set_option maxRecDepth 100000 in
set_option maxHeartbeats 4000000 in
theorem apply_any (a a' : Option Addr) (n c n' c' : Nat) (A D : List UInt8) (w : World) (h : Bytes w a n c A) (h' : Bytes w a' n' c' D) (hD : D.length ≤ 1000000) :
    Calls Try.prog 12 #[.slice a n c, .slice a' n' c'] w (AppIs (applyF A D) w) := by
  rcases hq : lenF D with ⟨b, t, y, er⟩
  have HL := Lib.hid (lengths_any a' n' c' D w h' b t y er hq)
  have HA := Lib.hid h
  have HD := Lib.hid h'
  have HLA := Lib.hid h.1
  have HLD := Lib.hid h'.1
  rcases len_er hq with rfl | rfl
  · obtain ⟨hy, hbb, htt⟩ := len_le hq
    have hbI : (b : Int) ≤ 9223372036854775807 := by omega
    have htI : (t : Int) ≤ 9223372036854775807 := by omega
    by_cases hs : (262144 : Int) < (t : Int)
    · have e : applyF A D = ([], 2) := by unfold applyF; rw [hq]; simp only [ne_eq, not_true_eq_false, if_false]; rw [if_pos (by omega)]
      rw [e]
      clear h h' hq hD hy hbb htt e
      go_enter Try.func12, Try.ntmps12
      go_wp2_with (go_at_call 24; (with_reducible refine HL.out.mono ?_); rintro e w1 ⟨rfl, rfl⟩)
      go_ret2
      exact app_no 2 _ _ (Below.refl _ _)
    · have d1 : decide ((262144 : Int) < (t : Int)) = false := decide_eq_false hs
      have d1n : decide (262144 < t) = false := decide_eq_false (by omega)
      by_cases hb : b = n
      · have hbn : ((b : Int) != (n : Int)) = false := by simp [hb]
        obtain ⟨Z, hZ⟩ : ∃ Z, runF A D t (D.length + 1) y [] = Z := ⟨_, rfl⟩
        have HE : Hid (applyF A D = endF Z) := Lib.hid (by
          unfold applyF
          rw [hq]
          simp only [ne_eq, not_true_eq_false, if_false]
          rw [if_neg (by omega), if_neg (by rw [h.1]; omega), hZ])
        have HZ := Lib.hid hZ
        have HY := Lib.hid hy
        have HT := Lib.hid (show t ≤ 262144 by omega)
        have HP := Lib.hid (fun at_ (hat : at_ ≤ D.length) W (hW : Below w.heap.size w W) => piece_any a a' n c n' c' at_ A D W (h.below hW) (h'.below hW) hat hD)
        have hn0 : (0 : Int) ≤ (n' : Int) := by omega
        have HDB := Lib.hid hD
        clear h h' hq hD hy hbb htt hZ hb hs
        go_enter Try.func12, Try.ntmps12
        go_wp2_with (go_at_call 24; (with_reducible refine HL.out.mono ?_); rintro e w1 ⟨rfl, rfl⟩)
        go_loopg [8, 10] (D.length + 1) (fun g v8 v10 W => ∃ (at_ : Nat) (out : List UInt8) (ao : Option Addr) (no co : Nat), v8 = .int .i64 at_ ∧ v10 = .slice ao no co ∧ Hid (runF A D t g at_ out = Z) ∧ Hid (D.length + 1 ≤ g + at_) ∧ Hid (at_ ≤ D.length) ∧ Hid (out.length ≤ t) ∧ Hid (Own W w.heap.size (.slice ao no co) out) ∧ Hid (Below w.heap.size w W))
        case atStart => exact ⟨y, [], none, 0, 0, rfl, rfl, HZ, Lib.hid (by omega), HY, Lib.hid (Nat.zero_le _), Lib.hid (Own.nil _ _), Lib.hid (Below.refl _ _)⟩
        case round =>
          obtain ⟨at_, out, ao, no, co, rfl, rfl, HR, HG, HAT, HOL, HO, HB⟩ := hrel
          have HNO := Lib.hid HO.out.len
          have hat0 : (0 : Int) ≤ (at_ : Int) := by omega
          by_cases hi : (at_ : Int) < (n' : Int)
          · have HI := Lib.hid (show at_ < D.length by rw [HLD.out]; omega)
            rcases hp : pieceF A D at_ with ⟨R, z⟩
            have HPR := Lib.hid hp
            have HPC := Lib.hid (hp ▸ HP.out at_ HAT.out wr HB.out : Calls Try.prog 25 #[.slice a n c, .slice a' n' c', .int .i64 at_] wr (PieceIs (R, z) wr))
            clear hp
            by_cases hR0 : R = []
            · have HZN := Lib.hid (run_bad HR.out HI.out (.inl (by rw [HPR.out]; exact hR0)))
              subst hR0
              go_wp2_with (go_at_call 25; (with_reducible refine HPC.out.mono ?_); rintro e w2 ⟨ak, nk, ck, rfl, hbk, rfl⟩; obtain rfl : 0 = nk := hbk.1; clear hbk)
              go_ret2
              rw [HE.out, HZN.out]
              exact app_no 6 _ _ HB.out
            · have hl0 : 0 < R.length := List.length_pos_iff.2 hR0
              have hk0 : ((R.length : Int) == 0) = false := by rw [beq_eq_false_iff_ne]; omega
              have W1 : IntKind.i64.wrap ((t : Int) - (no : Int)) = (t : Int) - (no : Int) := IntWalk.i64_in _ (by have h1 := HNO.out; have h2 := HOL.out; omega)
              by_cases hfit : (t : Int) - (no : Int) < (R.length : Int)
              · have HZN := Lib.hid (run_bad HR.out HI.out (.inr (by rw [HPR.out]; have h1 := HNO.out; have h2 := HOL.out; simp only; omega)))
                have d2 : decide ((t : Int) - (no : Int) < (R.length : Int)) = true := decide_eq_true hfit
                go_wp2_with (go_at_call 25; (with_reducible refine HPC.out.mono ?_); rintro e w2 ⟨ak, nk, ck, rfl, hbk, rfl⟩; obtain rfl : R.length = nk := hbk.1; clear hbk)
                go_ret2
                rw [HE.out, HZN.out]
                exact app_no 6 _ _ HB.out
              · have d2 : decide ((t : Int) - (no : Int) < (R.length : Int)) = false := decide_eq_false hfit
                have HF := Lib.hid (show out.length + R.length ≤ t by have h1 := HNO.out; have h2 := HOL.out; omega)
                have HST := Lib.hid (run_step HR.out HG.out HI.out (by rw [HPR.out]; have h1 := HF.out; rintro (h2 | h2); exact hR0 h2; simp only at h2; omega))
                rw [HPR.out] at HST
                have HNX := Lib.hid (piece_next HAT.out (by rw [HPR.out]; exact hR0))
                rw [HPR.out] at HNX
                clear hfit hR0
                go_wp2_with (first
                  | (go_at_call 25; (with_reducible refine HPC.out.mono ?_); rintro e w2 ⟨ak, nk, ck, rfl, hbk, rfl⟩; obtain rfl : R.length = nk := hbk.1; have HBK := Lib.hid hbk; clear hbk)
                  | (at_builtin; go_must (refine app_bytes rfl _ _ rfl w.heap.size _ out rfl HO.out _ R.length ck R rfl HBK.out (by have h1 := HF.out; have h2 := HT.out; omega) HB.out.size ?_); intro v6 w6 ho hg; obtain ⟨a6, n6, c6, rfl, _⟩ := ho.bytes; have HO6 := Lib.hid ho; have HB6 := Lib.hid (HB.out.grown hg HB.out.size (fun k hk => (World.ownsRow.lt HO.out k hk).1)); clear ho hg))
                go_roundg (gk - 1)
                case measure => have h1 := HG.out; have h2 := HI.out; omega
                case rel => exact ⟨z, out ++ R, a6, n6, c6, rfl, rfl, HST, Lib.hid (by have h1 := HG.out; have h2 : at_ < z := HNX.out.1; have h3 := HI.out; omega), Lib.hid HNX.out.2, Lib.hid (by rw [List.length_append]; exact HF.out), HO6, HB6⟩
          · have HEN := Lib.hid (run_end HR.out HG.out (by have h1 := HAT.out; have h2 := HLD.out; omega))
            have d0 : decide ((at_ : Int) < (n' : Int)) = false := decide_eq_false hi
            have d0n : decide (at_ < n') = false := decide_eq_false (by omega)
            by_cases hsh : (no : Int) < (t : Int)
            · have d3 : decide (no < t) = true := decide_eq_true (by omega)
              have HZN : Hid (Z = none) := Lib.hid (by have h1 := HEN.out; rw [if_pos (by have h2 := HNO.out; omega)] at h1; exact h1.symm)
              clear hi
              go_wp2
              go_ret2
              rw [HE.out, HZN.out]
              exact app_no 6 _ _ HB.out
            · have d3 : decide (no < t) = false := decide_eq_false (by omega)
              have HZN : Hid (Z = some out) := Lib.hid (by have h1 := HEN.out; rw [if_neg (by have h2 := HNO.out; omega)] at h1; exact h1.symm)
              clear hi
              go_wp2
              go_ret2
              rw [HE.out, HZN.out]
              exact ⟨ao, no, co, rfl, HO.out, HB.out⟩
      · have hbn : ((b : Int) != (n : Int)) = true := by simp only [bne_iff_ne, ne_eq]; omega
        have e : applyF A D = ([], 6) := by unfold applyF; rw [hq]; simp only [ne_eq, not_true_eq_false, if_false]; rw [if_neg (by omega), if_pos (by rw [h.1]; omega)]
        rw [e]
        clear h h' hq hD hy hbb htt e hb hs
        go_enter Try.func12, Try.ntmps12
        go_wp2_with (go_at_call 24; (with_reducible refine HL.out.mono ?_); rintro e w1 ⟨rfl, rfl⟩)
        go_ret2
        exact app_no 6 _ _ (Below.refl _ _)
  · have e : applyF A D = ([], 6) := by unfold applyF; rw [hq]; rfl
    rw [e]
    clear h h' hq hD e
    go_enter Try.func12, Try.ntmps12
    go_wp2_with (go_at_call 24; (with_reducible refine HL.out.mono ?_); rintro e w1 ⟨rfl, rfl⟩)
    go_ret2
    exact app_no 6 _ _ (Below.refl _ _)
#print axioms apply_any
end Go.Proofs.Ytheigemfbcgjcaa
