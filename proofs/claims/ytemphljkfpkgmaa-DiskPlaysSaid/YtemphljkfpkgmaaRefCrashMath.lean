/-
  The reference's Crash, plainly: what each round of its two loops adds.
-/
import Derived.Test.YtemphljkfpkgmaaRefEnd
namespace Go.Proofs.Ytemphljkfpkgmaa
open Go.RowKit

theorem gd_at {α : Type} [Inhabited α] {l : List α} {i : Nat} (hi : i < l.length) : gd l i = l[i] := by unfold gd; simp [hi]
theorem fold_next {bs : List DAct} {d : Dir} {i : Nat} (hi : i < bs.length) : (bs.take (i + 1)).foldl turnD d = turnD ((bs.take i).foldl turnD d) (gd bs i) := by
  rw [List.take_succ_eq_append_getElem hi, List.foldl_append, gd_at hi]
  rfl
theorem files_next {files : List FileD} {l : Dir} {fs : List Int} {i : Nat} (hi : i < l.length) : leftFiles files (l.take (i + 1)) fs = leftFiles files (l.take i) fs ++ [cutF (files.getD (gd l i).2 ([], 0)) fs i] := by
  unfold leftFiles
  rw [List.take_succ_eq_append_getElem hi, List.mapIdx_append, gd_at hi]
  simp [List.length_take, Nat.min_eq_left (Nat.le_of_lt hi)]
theorem now_next {l : Dir} {i : Nat} (hi : i < l.length) : leftNow (l.take (i + 1)) = leftNow (l.take i) ++ [((gd l i).1, i)] := by
  unfold leftNow
  rw [List.take_succ_eq_append_getElem hi, List.mapIdx_append, gd_at hi]
  simp [List.length_take, Nat.min_eq_left (Nat.le_of_lt hi)]
theorem fate_le (fs : List Int) (i c : Nat) (hc : 0 < c) : fateF fs i c < c := by
  unfold fateF
  split
  · exact hc
  · rename_i x _
    have h1 := Int.emod_nonneg x (b := (c : Int)) (by omega)
    have h2 := Int.emod_lt_of_pos x (b := (c : Int)) (by omega)
    omega
#print axioms files_next
end Go.Proofs.Ytemphljkfpkgmaa
