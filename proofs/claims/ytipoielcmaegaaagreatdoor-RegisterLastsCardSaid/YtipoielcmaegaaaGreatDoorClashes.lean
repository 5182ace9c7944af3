/-
  The walks of clashes, the program's and the document's.
-/
import Derived.Test.YtipoielcmaegaaaGreatDoorClash
namespace Go.Proofs.YtipoielcmaegaaaGreatDoor
open Go.RowKit

theorem clashesF_take {p : List UInt8} {L : List (List UInt8)} {j : Nat} (hj : j < L.length) : clashesF p (L.take (j + 1)) = (clashesF p (L.take j) || clashF p (L.getD j default)) := by
  rw [List.take_succ_eq_append_getElem hj, clashesF_append]
  congr 1
  simp [clashesF, hj]
theorem clashesF_hit {p : List UInt8} {L : List (List UInt8)} {j : Nat} (hj : j < L.length) (h : clashF p (L.getD j default) = true) : clashesF p L = true := by
  rw [← List.take_append_drop (j + 1) L, clashesF_append, clashesF_take hj, h]; simp

set_option maxRecDepth 100000 in
set_option maxHeartbeats 400000 in
theorem clashes_any (s : ByteArray) (a : Option Addr) (n c : Nat) (L : List (List UInt8)) (w : World) (hA : At1 St w a n c L) (hn : n ≤ 1000000000) :
    Calls Tryz.prog 27 #[.string s, .slice a n c] w fun e w' => e = .returned (.bool (clashesF s.data.toList L)) ∧ w = w' := by
  have HL := Lib.hid hA.1
  have HA := Lib.hid hA
  have hnI : (n : Int) ≤ 1000000000 := by omega
  have H0 := Lib.hid (show clashesF s.data.toList (L.take 0) = false from rfl)
  clear hA hn
  go_enter Tryz.func27, Tryz.ntmps27
  go_wp2
  go_loopg [9] n (fun g v9 W => ∃ j : Nat, w = W ∧ v9 = .int .i64 j ∧ g + j = n ∧ Hid (clashesF s.data.toList (L.take j) = false))
  case atStart => exact ⟨0, rfl, rfl, rfl, H0⟩
  case round =>
    obtain ⟨j, rfl, rfl, hg, hinv⟩ := hrel
    have HG := Lib.hid hg
    have hj0 : (0 : Int) ≤ (j : Int) := by omega
    have hjI : (j : Int) ≤ (n : Int) := by omega
    by_cases hj : (j : Int) < (n : Int)
    · have hjn : j < n := by omega
      obtain ⟨b, o, rfl⟩ := HA.out.some_ (by omega)
      obtain ⟨x, hx⟩ : ∃ x, x = L.getD j default := ⟨_, rfl⟩
      have hc : w.cell? ⟨b, o + j, none⟩ = some (.string (strB x)) := by rw [hx]; exact HA.out.cell j hjn
      obtain ⟨f, hf⟩ : ∃ f, f = clashF s.data.toList x := ⟨_, rfl⟩
      have HC := Lib.hid (clash_any s (strB x) w)
      rw [strB_list, ← hf] at HC
      have HX := Lib.hid hx
      have HF := Lib.hid hf
      clear hg hx hf
      rcases f
      · have HN := Lib.hid (show clashesF s.data.toList (L.take (j + 1)) = false by rw [clashesF_take (by rw [HL.out]; exact hjn), hinv.out, ← HX.out, ← HF.out]; rfl)
        go_wp2_with (go_at_call 32; (with_reducible refine HC.out.mono ?_); rintro e w1 ⟨rfl, rfl⟩)
        go_roundg (gk - 1)
        case measure => have := HG.out; omega
        case rel => exact ⟨j + 1, rfl, by go_num, by have := HG.out; omega, HN⟩
      · have HN := Lib.hid (clashesF_hit (p := s.data.toList) (by rw [HL.out]; exact hjn) (by rw [← HX.out]; exact HF.out.symm))
        go_wp2_with (go_at_call 32; (with_reducible refine HC.out.mono ?_); rintro e w1 ⟨rfl, rfl⟩)
        go_ret
        exact ⟨retBl HN.out.symm, rfl⟩
    · have HE := Lib.hid (show clashesF s.data.toList L = false by
        have h1 := hinv.out
        rw [List.take_of_length_le (by rw [HL.out]; omega)] at h1
        exact h1)
      clear hg
      go_wp2
      go_ret
      exact ⟨retBl HE.out.symm, rfl⟩

set_option maxRecDepth 100000 in
set_option maxHeartbeats 400000 in
theorem refClashes_any (s : ByteArray) (a : Option Addr) (n c : Nat) (L : List (List UInt8)) (w : World) (hA : At1 St w a n c L) (hn : n ≤ 1000000000) (hs : s.size ≤ 1000000000000000) (hx : ∀ j, j < n → (L.getD j default).length ≤ 1000000000000000) :
    Calls Tryz.prog 36 #[.string s, .slice a n c] w fun e w' => e = .returned (.bool (clashesF s.data.toList L)) ∧ w = w' := by
  have HL := Lib.hid hA.1
  have HA := Lib.hid hA
  have HS := Lib.hid hs
  have HXS := Lib.hid hx
  have hnI : (n : Int) ≤ 1000000000 := by omega
  have H0 := Lib.hid (show clashesF s.data.toList (L.take 0) = false from rfl)
  clear hA hn hs hx
  go_enter Tryz.func36, Tryz.ntmps36
  go_wp2
  go_loopg [5] n (fun g v5 W => ∃ j : Nat, w = W ∧ v5 = .int .i64 j ∧ g + j = n ∧ Hid (clashesF s.data.toList (L.take j) = false))
  case atStart => exact ⟨0, rfl, rfl, rfl, H0⟩
  case round =>
    obtain ⟨j, rfl, rfl, hg, hinv⟩ := hrel
    have HG := Lib.hid hg
    have hj0 : (0 : Int) ≤ (j : Int) := by omega
    have hjI : (j : Int) ≤ (n : Int) := by omega
    by_cases hj : (j : Int) < (n : Int)
    · have hjn : j < n := by omega
      obtain ⟨b, o, rfl⟩ := HA.out.some_ (by omega)
      obtain ⟨x, hx⟩ : ∃ x, x = L.getD j default := ⟨_, rfl⟩
      have hc : w.cell? ⟨b, o + j, none⟩ = some (.string (strB x)) := by rw [hx]; exact HA.out.cell j hjn
      obtain ⟨f, hf⟩ : ∃ f, f = clashF s.data.toList x := ⟨_, rfl⟩
      have HC := Lib.hid (refClash_any s (strB x) w HS.out (by rw [strB_size, hx]; exact HXS.out j hjn))
      rw [strB_list, ← hf] at HC
      have HX := Lib.hid hx
      have HF := Lib.hid hf
      clear hg hx hf
      rcases f
      · have HN := Lib.hid (show clashesF s.data.toList (L.take (j + 1)) = false by rw [clashesF_take (by rw [HL.out]; exact hjn), hinv.out, ← HX.out, ← HF.out]; rfl)
        go_wp2_with (go_at_call 52; (with_reducible refine HC.out.mono ?_); rintro e w1 ⟨rfl, rfl⟩)
        go_roundg (gk - 1)
        case measure => have := HG.out; omega
        case rel => exact ⟨j + 1, rfl, by go_num, by have := HG.out; omega, HN⟩
      · have HN := Lib.hid (clashesF_hit (p := s.data.toList) (by rw [HL.out]; exact hjn) (by rw [← HX.out]; exact HF.out.symm))
        go_wp2_with (go_at_call 52; (with_reducible refine HC.out.mono ?_); rintro e w1 ⟨rfl, rfl⟩)
        go_ret
        exact ⟨retBl HN.out.symm, rfl⟩
    · have HE := Lib.hid (show clashesF s.data.toList L = false by
        have h1 := hinv.out
        rw [List.take_of_length_le (by rw [HL.out]; omega)] at h1
        exact h1)
      clear hg
      go_wp2
      go_ret
      exact ⟨retBl HE.out.symm, rfl⟩
#print axioms refClashes_any
end Go.Proofs.YtipoielcmaegaaaGreatDoor
