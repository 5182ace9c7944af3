/-
  The reference's Texts walked.
-/
import Derived.Test.YtemphljkfpkgmaaRefList
namespace Go.Proofs.Ytemphljkfpkgmaa
open Go.RowKit

theorem drop_same {L M : List Nm} {i : Nat} (hi : i < L.length) (hj : i < M.length) : decide (L.drop i = M.drop i) = (decide (L.getD i default = M.getD i default) && decide (L.drop (i + 1) = M.drop (i + 1))) := by
  rw [List.drop_eq_getElem_cons hi, List.drop_eq_getElem_cons hj]
  have e1 : L.getD i default = L[i] := by simp [hi]
  have e2 : M.getD i default = M[i] := by simp [hj]
  rw [e1, e2]
  simp only [List.cons.injEq, Bool.decide_and]
set_option maxRecDepth 100000 in
set_option maxHeartbeats 1000000 in
theorem refTexts_any (a : Option Addr) (n c : Nat) (L : List Nm) (b : Option Addr) (m d : Nat) (M : List Nm) (w : World) (h : At1 St w a n c L) (h2 : At1 St w b m d M) :
    Calls Try.prog 9 #[.slice a n c, .slice b m d] w fun e w' => e = .returned (.bool (decide (L = M))) ∧ Below w.heap.size w w' := by
  have HA := Lib.hid h
  have HB := Lib.hid h2
  have hnI : (n : Int) ≤ 9223372036854775807 := by have := h.2.1; have := h.2.2.1; omega
  by_cases hnm : n = m
  · subst hnm
    clear h h2
    go_enter Try.func9, Try.ntmps9
    go_wp2
    go_loopg [5] n (fun g v5 W => ∃ i : Nat, Below w.heap.size w W ∧ v5 = .int .i64 i ∧ g + i = n ∧ Hid (decide (L = M) = decide (L.drop i = M.drop i)))
    case atStart => exact ⟨0, Below.refl _ _, rfl, rfl, Lib.hid rfl⟩
    case round =>
      obtain ⟨i, hbw, rfl, hg, HE⟩ := hrel
      have HG := Lib.hid hg
      have HBw := Lib.hid hbw
      have hi0 : (0 : Int) ≤ (i : Int) := by omega
      have hiI : (i : Int) ≤ (n : Int) := by omega
      by_cases hi : (i : Int) < (n : Int)
      · have hin : i < n := by omega
        have HI := Lib.hid hin
        obtain ⟨ab, ao, rfl⟩ := HA.out.some_ (by omega)
        obtain ⟨bb, bo, rfl⟩ := HB.out.some_ (by omega)
        have c0 := (HA.out.below hbw).cell i hin
        have c1 := (HB.out.below hbw).cell i hin
        have HS := Lib.hid (drop_same (L := L) (M := M) (i := i) (by rw [HA.out.1]; exact hin) (by rw [HB.out.1]; exact hin))
        obtain ⟨x, hx⟩ : ∃ x, L.getD i default = x := ⟨_, rfl⟩
        obtain ⟨y, hy⟩ : ∃ y, M.getD i default = y := ⟨_, rfl⟩
        rw [hx] at c0 HS
        rw [hy] at c1 HS
        replace c0 : wr.cell? ⟨ab, ao + i, none⟩ = some (.string (strB x)) := c0
        replace c1 : wr.cell? ⟨bb, bo + i, none⟩ = some (.string (strB y)) := c1
        have ee := ent_eq x y
        clear hg hin hx hy
        by_cases hxy : x = y
        · have e1 : ((strB x).toList == (strB y).toList) = true := by rw [ee]; simp [hxy]
          have e2 : ((strB x).toList != (strB y).toList) = false := by simp [bne, e1]
          have HE2 := Lib.hid (show decide (L = M) = decide (L.drop (i + 1) = M.drop (i + 1)) by rw [HE.out, HS.out, decide_eq_true hxy, Bool.true_and])
          clear ee hxy
          go_wp2
          go_quiet (fail)
          have HBq := Lib.hid (below_drewS HBw.out nq)
          generalize wr.drewN nq = wq at HBq ⊢
          clear c0 c1
          go_wp2
          go_roundg (n - (i + 1))
          case measure => have := HG.out; have := HI.out; omega
          case rel => exact ⟨i + 1, HBq.out, by go_num, by have := HG.out; have := HI.out; omega, HE2⟩
        · have e1 : ((strB x).toList == (strB y).toList) = false := by rw [ee]; simp [hxy]
          have e2 : ((strB x).toList != (strB y).toList) = true := by simp [bne, e1]
          have HE2 := Lib.hid (show decide (L = M) = false by rw [HE.out, HS.out, decide_eq_false hxy, Bool.false_and])
          clear ee hxy
          go_wp2
          go_quiet (fail)
          have HBq := Lib.hid (below_drewS HBw.out nq)
          generalize wr.drewN nq = wq at HBq ⊢
          clear c0 c1
          go_wp2
          go_ret
          exact ⟨by rw [HE2.out]; rfl, HBq.out⟩
      · have HE2 := Lib.hid (show decide (L = M) = true by
          rw [HE.out, List.drop_eq_nil_of_le (by rw [HA.out.1]; omega), List.drop_eq_nil_of_le (by rw [HB.out.1]; omega)]
          rfl)
        clear hg
        go_wp2
        go_ret
        exact ⟨by rw [HE2.out]; rfl, HBw.out⟩
  · have HE2 := Lib.hid (show decide (L = M) = false from decide_eq_false (fun e => hnm (by rw [← HA.out.1, ← HB.out.1, e])))
    have e0 : ((n : Int) == (m : Int)) = false := by simp; omega
    have e1 : ((n : Int) != (m : Int)) = true := by simp; omega
    clear h h2 hnm
    go_enter Try.func9, Try.ntmps9
    go_wp2
    go_ret
    exact ⟨by rw [HE2.out]; rfl, Below.refl _ _⟩
#print axioms refTexts_any
end Go.Proofs.Ytemphljkfpkgmaa
