/-
  The walk of Fresh's closure: a path with a number.
-/
import Derived.Test.YtipoielcmaegaaaGreatDoorNumBehind
import Derived.BigQuiet
import Derived.Deep.QuietTactic
namespace Go.Proofs.YtipoielcmaegaaaGreatDoor
open Go.RowKit

theorem strB_app (l m : List UInt8) : strB l ++ strB m = strB (l ++ m) := by
  apply ByteArray.ext
  simp [strB]
theorem itoa_small (n : Nat) (w : World) (h : n < 100) :
    Calls Tryz.prog 30 #[.int .i64 n] w fun e w' => e = .returned (.string (strB (Lib.decDigits n))) ∧ w' = w := Tryz.strconv_Itoa_small n h w
theorem dec_len {n : Nat} (h : n < 100) : (Lib.decDigits n).length ≤ 2 := by
  by_cases h1 : n < 10
  · rw [Lib.decDigits_one h1]; simp
  · rw [Lib.decDigits_two h1 h]; simp

set_option maxRecDepth 100000 in
set_option maxHeartbeats 1000000 in
theorem numbered_any (n : Nat) (F H : List UInt8) (g5 g6 : Nat) (w : World) (hn : n < 100) (hF : F.length ≤ 140737488355328) (hH : H.length ≤ 140737488355328)
    (h5 : w.cell? ⟨g5, 0, none⟩ = some (.string (strB F))) (h6 : w.cell? ⟨g6, 0, none⟩ = some (.string (strB H))) :
    Calls Tryz.prog 29 #[.int .i64 n, .pointer (some ⟨g5, 0, none⟩), .pointer (some ⟨g6, 0, none⟩)] w fun e w' => e = .returned (.string (strB (F ++ 126 :: (Lib.decDigits n ++ H)))) ∧ Below w.heap.size w w' := by
  have HI := Lib.hid (fun w => itoa_small n w hn)
  have HE := Lib.hid (show strB F ++ ⟨#[126]⟩ ++ strB (Lib.decDigits n) ++ strB H = strB (F ++ 126 :: (Lib.decDigits n ++ H)) by
    rw [show (⟨#[126]⟩ : ByteArray) = strB [126] from rfl, strB_app, strB_app, strB_app]; congr 1; simp)
  obtain ⟨f, hf⟩ : ∃ f, f = strB F := ⟨_, rfl⟩
  obtain ⟨h, hh⟩ : ∃ h, h = strB H := ⟨_, rfl⟩
  obtain ⟨d, hd⟩ : ∃ d, d = strB (Lib.decDigits n) := ⟨_, rfl⟩
  have s1 : (f.size : Int) ≤ 140737488355328 := by rw [hf, strB_size]; omega
  have s2 : (h.size : Int) ≤ 140737488355328 := by rw [hh, strB_size]; omega
  have s3 : (d.size : Int) ≤ 2 := by rw [hd, strB_size]; have := dec_len hn; omega
  rw [← hf, ← hh, ← hd] at HE
  rw [← hd] at HI
  rw [← hf] at h5
  rw [← hh] at h6
  clear hf hh hd hn hF hH
  go_enter Tryz.func29, Tryz.ntmps29
  go_wp2
  go_quiet ((go_at_call 30; exact Calls.quiet_of_same ((HI.out _).mono fun e w h => ⟨h.1, h.2⟩)))
  go_wp2
  go_ret
  exact ⟨by rw [HE.out]; rfl, below_drewG (Below.refl _ _) _⟩
#print axioms numbered_any
end Go.Proofs.YtipoielcmaegaaaGreatDoor
