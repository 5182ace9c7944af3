/-
  The reference's fate walked.
-/
import Derived.Test.YtemphljkfpkgmaaRefTexts
import Derived.Test.YtemphljkfpkgmaaFate
namespace Go.Proofs.Ytemphljkfpkgmaa
open Go.RowKit

theorem emod_ref (x : Int) (c : Nat) (hc : 0 < c) : (if Int.tmod x (c : Int) < 0 then Int.tmod x (c : Int) + (c : Int) else Int.tmod x (c : Int)) = x % (c : Int) := by
  have h1 := Int.emod_nonneg x (b := (c : Int)) (by omega)
  have h2 := Int.emod_lt_of_pos x (b := (c : Int)) (by omega)
  have h3 := Int.tmod_lt_of_pos x (b := (c : Int)) (by omega)
  have h4 : -(c : Int) < Int.tmod x (c : Int) := by
    have h5 := Int.tmod_lt_of_pos (-x) (b := (c : Int)) (by omega)
    rw [Int.neg_tmod] at h5
    omega
  have e : Int.tmod x (c : Int) % (c : Int) = x % (c : Int) := by
    rw [Int.tmod_def]
    exact Int.sub_mul_emod_self_left _ _ _
  split
  · rw [← e, ← Int.add_emod_right]
    exact (Int.emod_eq_of_lt (by omega) (by omega)).symm
  · rw [← e]
    exact (Int.emod_eq_of_lt (by omega) (by omega)).symm
theorem fateF_at {fs : List Int} {i c : Nat} (hi : i < fs.length) (hc : 0 < c) : ((fateF fs i c : Nat) : Int) = (fs.getD i default) % (c : Int) := by
  have h1 := Int.emod_nonneg (fs.getD i default) (b := (c : Int)) (by omega)
  have e : fs[i]? = some (fs.getD i default) := by simp [hi]
  unfold fateF
  rw [e]
  show (((fs.getD i default % (c : Int)).toNat : Nat) : Int) = _
  omega
set_option maxRecDepth 100000 in
set_option maxHeartbeats 400000 in
theorem refFate_any (a : Option Addr) (n c : Nat) (fs : List Int) (i c0 : Nat) (w : World) (hA : At1 I w a n c fs) (hi : i ≤ 2000000000) (hc0 : 0 < c0) (hc1 : c0 ≤ 2000000000) (hz : ∀ z ∈ fs, -9223372036854775808 ≤ z ∧ z ≤ 9223372036854775807) :
    Calls Try.prog 49 #[.slice a n c, .int .i64 (i : Int), .int .i64 (c0 : Int)] w fun e w' => e = .returned (.int .i64 (fateF fs i c0 : Nat)) ∧ w = w' := by
  have hlen := hA.1
  have hiI : (i : Int) ≤ 2000000000 := by omega
  have hi0 : (0 : Int) ≤ (i : Int) := by omega
  by_cases hn : (i : Int) < (n : Int)
  · obtain ⟨b, off, rfl⟩ := hA.some_ (by omega)
    have hcell := hA.cell i (by omega)
    have HZ := Lib.hid (fateF_at (fs := fs) (i := i) (c := c0) (by omega) hc0)
    have HM := Lib.hid (emod_ref (fs.getD i default) c0 hc0)
    have hxz := hz _ (show fs.getD i default ∈ fs by
      have hil : i < fs.length := by omega
      simp [hil])
    obtain ⟨x, hx⟩ : ∃ x, fs.getD i default = x := ⟨_, rfl⟩
    rw [hx] at hcell HZ HM hxz
    replace hcell : w.cell? ⟨b, off + i, none⟩ = some (.int .i64 x) := hcell
    have h0c : (0 : Int) < (c0 : Int) := by omega
    have hc0z : ((c0 : Int) == 0) = false := by simp; omega
    have hcI1 : (c0 : Int) ≤ 2000000000 := by omega
    have hr1 : -(c0 : Int) < Int.tmod x (c0 : Int) := by
      have h5 := Int.tmod_lt_of_pos (-x) (b := (c0 : Int)) (by omega)
      rw [Int.neg_tmod] at h5
      omega
    have hr2 : Int.tmod x (c0 : Int) ≤ 2000000000 := by
      have h5 := Int.tmod_lt_of_pos x (b := (c0 : Int)) (by omega)
      omega
    have hw : wrap64 (Int.tmod x (c0 : Int) + (c0 : Int)) = Int.tmod x (c0 : Int) + (c0 : Int) := IntWalk.wrap64_in _ (by omega)
    have hw2 : wrap64 (Int.tmod x (c0 : Int)) = Int.tmod x (c0 : Int) := IntWalk.wrap64_in _ (by omega)
    by_cases hneg : Int.tmod x (c0 : Int) < 0
    · have HR := Lib.hid (show ((fateF fs i c0 : Nat) : Int) = Int.tmod x (c0 : Int) + (c0 : Int) by rw [HZ.out, ← HM.out, if_pos hneg])
      clear hA hz hlen hx
      go_enter Try.func49, Try.ntmps49
      go_wp2
      go_ret
      exact ⟨by rw [HR.out]; rfl, rfl⟩
    · have HR := Lib.hid (show ((fateF fs i c0 : Nat) : Int) = Int.tmod x (c0 : Int) by rw [HZ.out, ← HM.out, if_neg hneg])
      clear hA hz hlen hx
      go_enter Try.func49, Try.ntmps49
      go_wp2
      go_ret
      exact ⟨by rw [HR.out]; rfl, rfl⟩
  · have HR := Lib.hid (show fateF fs i c0 = 0 by
      unfold fateF
      rw [List.getElem?_eq_none (by omega)])
    have hn2 : (n : Int) ≤ (i : Int) := by omega
    clear hA hz hlen
    go_enter Try.func49, Try.ntmps49
    go_wp2
    go_ret
    exact ⟨by rw [HR.out]; rfl, rfl⟩
#print axioms refFate_any
end Go.Proofs.Ytemphljkfpkgmaa
