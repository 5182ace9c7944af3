/-
  The walks of the document's pieces and Texts.
-/
import Derived.Test.YtipoielcmaegaaaGreatDoorClash
namespace Go.Proofs.YtipoielcmaegaaaGreatDoor
open Go.RowKit

theorem one_str (w : World) (b : ByteArray) (T : TypeId) : At1 St (w.alloc (.cells #[.string b] T)) (some ⟨w.heap.size, 0, none⟩) 1 1 [b.data.toList] := by
  refine ⟨rfl, Nat.le_refl _, by omega, .inr ⟨_, _, rfl, fun j hj => ?_⟩⟩
  obtain rfl : j = 0 := by omega
  show _ = some (Value.string (strB b.data.toList))
  rw [strB_of]
  simp

/-- The pieces so far; behind the end all. -/
def pcX (s : List UInt8) (i : Nat) : List (List UInt8) × Nat := if i ≤ s.length then pcS s i else (pcs s, s.length + 1)
theorem pcX_len (s : List UInt8) (i : Nat) : (pcX s i).1.length ≤ s.length + 1 := by
  unfold pcX
  split
  · rename_i h; have := pcS_length s i; omega
  · exact pcs_length s
theorem pcX_from (s : List UInt8) (i : Nat) (h : i ≤ s.length) : (pcX s i).2 ≤ i := by unfold pcX; rw [if_pos h]; exact pcS_le s i
theorem pcX_cut {s : List UInt8} {i f : Nat} {out : List (List UInt8)} (h : pcX s i = (out, f)) (hi : i < s.length) (h47 : s.getD i 0 = 47) : pcX s (i + 1) = (out ++ [(s.drop f).take (i - f)], i + 1) := by
  unfold pcX at h ⊢
  rw [if_pos (by omega)] at h ⊢
  rw [pcS_at h47, h]
theorem pcX_on {s : List UInt8} {i f : Nat} {out : List (List UInt8)} (h : pcX s i = (out, f)) (hi : i < s.length) (h47 : s.getD i 0 ≠ 47) : pcX s (i + 1) = (out, f) := by
  unfold pcX at h ⊢
  rw [if_pos (by omega)] at h ⊢
  rw [pcS_not h47, h]
theorem pcX_end {s : List UInt8} {f : Nat} {out : List (List UInt8)} (h : pcX s s.length = (out, f)) : pcX s (s.length + 1) = (out ++ [(s.drop f).take (s.length - f)], s.length + 1) := by
  unfold pcX at h ⊢
  rw [if_pos (by omega)] at h
  rw [if_neg (by omega)]
  unfold pcs
  rw [h, List.take_of_length_le (by simp)]

set_option maxRecDepth 100000 in
set_option maxHeartbeats 1000000 in
theorem pieces_any (s : ByteArray) (w : World) (hs : s.size ≤ 1000000000) :
    Calls Tryz.prog 34 #[.string s] w fun e w' => ∃ a n c, e = .returned (.slice a n c) ∧ Own1 St 9 w' w.heap.size (.slice a n c) (pcs s.data.toList) ∧ Below w.heap.size w w' := by
  have hsI : (s.size : Int) ≤ 1000000000 := by omega
  have HS := Lib.hid hs
  have H0 := Lib.hid (show pcX s.data.toList 0 = ([], 0) from rfl)
  clear hs
  go_enter Tryz.func34, Tryz.ntmps34
  go_wp2
  go_loopg [3, 4, 5] (s.size + 1) (fun g v3 v4 v5 W => ∃ (i f : Nat) (out : List (List UInt8)), Below w.heap.size w W ∧ Own1 St 9 W w.heap.size v3 out ∧ v4 = .int .i64 f ∧ v5 = .int .i64 i ∧ g + i = s.size + 1 ∧ Hid (pcX s.data.toList i = (out, f)))
  case atStart => exact ⟨0, 0, [], Below.refl _ _, Own1.nil, rfl, rfl, rfl, H0⟩
  case round =>
    obtain ⟨i, f, out, hbw, hown, rfl, rfl, hg, hinv⟩ := hrel
    have HG := Lib.hid hg
    have HOL := Lib.hid (show out.length ≤ s.size + 1 by have := pcX_len s.data.toList i; rw [hinv.out, b_len] at this; exact this)
    have HBW := Lib.hid hbw
    have HOWN := Lib.hid hown
    by_cases h1 : (i : Int) ≤ (s.size : Int)
    · have hf : (f : Int) ≤ (i : Int) := by have := pcX_from s.data.toList i (by rw [b_len]; omega); rw [hinv.out] at this; simpa using this
      have hf2 : (f : Int) ≤ (s.size : Int) := by omega
      have hf3 : f ≤ i := by omega
      have hf4 : i ≤ s.size := by omega
      by_cases h2 : (i : Int) < (s.size : Int)
      · have h2n : i < s.size := by omega
        have h3 : ((i : Int) == (s.size : Int)) = false := by simp; omega
        have HAT := Lib.hid (b_at s i h2n)
        by_cases h4 : ((s[i]'h2n).toNat : Int) = 47
        · have HN := Lib.hid (pcX_cut hinv.out (by rw [b_len]; exact h2n) (by rw [← HAT.out]; exact byte47.1 h4))
          clear hg hbw hown
          go_wp2_with (first
            | ((with_reducible show wpList _ _ _ (⟨some 28, _, _, _, _, _⟩ :: _) _ _); go_must (refine app1 St (fun _ => rfl) Tryz.underlying50 infoSt rfl rfl (.tmp 22) (.tmp 27) rfl w.heap.size _ out rfl (HOWN.out.alloc _) _ 1 1 [(s.extract f i).data.toList] rfl (one_str _ _ _) (by have := HOL.out; have := HS.out; omega) (by have := HBW.out.size; simp; omega) _ rfl ?_); intro a3 c3 w3 hown3 hgr3; have HB3 := Lib.hid ((HBW.out.alloc HBW.out.size (.cells #[.string (s.extract f i)] 9)).grown hgr3 (by have := HBW.out.size; simp; omega) (fun q hq => (HOWN.out.lt q hq).1)); have HO3 := Lib.hid hown3; clear hgr3 hown3))
          go_roundg (gk - 1)
          case measure => have := HG.out; omega
          case rel => exact ⟨i + 1, i + 1, _, HB3.out, HO3.out, by go_num, by go_num, by have := HG.out; omega, by rw [b_ext]; exact HN⟩
        · have HN := Lib.hid (pcX_on hinv.out (by rw [b_len]; exact h2n) (by rw [← HAT.out]; exact fun h => h4 (byte47.2 h)))
          clear hg hbw hown
          go_wp2
          go_roundg (gk - 1)
          case measure => have := HG.out; omega
          case rel => exact ⟨i + 1, f, _, HBW.out, HOWN.out, rfl, by go_num, by have := HG.out; omega, HN⟩
      · have h2n : i = s.size := by omega
        subst h2n
        have h3 : ((s.size : Int) == (s.size : Int)) = true := by simp
        have hlen : s.data.toList.length = s.size := b_len s
        have HN := Lib.hid (show pcX s.data.toList (s.size + 1) = (out ++ [(s.data.toList.drop f).take (s.size - f)], s.size + 1) by
          have := pcX_end (s := s.data.toList) (f := f) (out := out) (by rw [hlen]; exact hinv.out)
          rw [hlen] at this; exact this)
        clear hg hbw hown hlen
        go_wp2_with (first
            | ((with_reducible show wpList _ _ _ (⟨some 28, _, _, _, _, _⟩ :: _) _ _); go_must (refine app1 St (fun _ => rfl) Tryz.underlying50 infoSt rfl rfl (.tmp 22) (.tmp 27) rfl w.heap.size _ out rfl (HOWN.out.alloc _) _ 1 1 [(s.extract f s.size).data.toList] rfl (one_str _ _ _) (by have := HOL.out; have := HS.out; omega) (by have := HBW.out.size; simp; omega) _ rfl ?_); intro a3 c3 w3 hown3 hgr3; have HB3 := Lib.hid ((HBW.out.alloc HBW.out.size (.cells #[.string (s.extract f s.size)] 9)).grown hgr3 (by have := HBW.out.size; simp; omega) (fun q hq => (HOWN.out.lt q hq).1)); have HO3 := Lib.hid hown3; clear hgr3 hown3))
        go_roundg (gk - 1)
        case measure => have := HG.out; omega
        case rel => exact ⟨s.size + 1, s.size + 1, _, HB3.out, HO3.out, by go_num, by go_num, by have := HG.out; omega, by rw [b_ext]; exact HN⟩
    · have h2 : i = s.size + 1 := by omega
      have HE := Lib.hid (show out = pcs s.data.toList by
        have := hinv.out
        unfold pcX at this
        rw [if_neg (by rw [b_len]; omega)] at this
        exact (congrArg (·.1) this).symm)
      clear hg hbw hown
      go_wp2
      go_ret
      obtain ⟨a, c, hv, _⟩ := HOWN.out.at1_
      subst hv
      have hO := HOWN.out
      rw [HE.out] at hO
      rw [HE.out]
      exact ⟨a, _, c, rfl, hO, HBW.out⟩
#print axioms pieces_any
end Go.Proofs.YtipoielcmaegaaaGreatDoor
