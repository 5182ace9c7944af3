/-
  The sum of nothing from a hash that is not there; the chapter's first example.
-/
import Derived.Test.YtkjgcgdfofheeaaDoorShaSumP
import Derived.Lib.SlBytesConst
namespace Go.Proofs.YtkjgcgdfofheeaaDoor
open Go.RowKit

theorem sum_abc : sumF [97, 98, 99] = [186, 120, 22, 191, 143, 1, 207, 234, 65, 65, 64, 222, 93, 174, 34, 35, 176, 3, 97, 163, 150, 23, 122, 156, 180, 16, 255, 97, 242, 0, 21, 173] := by decide +kernel

theorem Parts.nil (w : World) : Parts w none 0 [] := ⟨rfl, by omega, .inl rfl⟩

set_option maxRecDepth 100000 in
set_option maxHeartbeats 400000 in
theorem hsum_nil (w : World) (ht : Tables w) :
    Calls Tryd.prog 15 #[.pointer none] w fun e w' => e = .returned (.agg (bytesV (sumF [])).toArray) ∧ Below w.heap.size w w' := by
  have hT := Lib.hid ht
  clear ht
  go_enter Tryd.func15, Tryd.ntmps15
  go_wp2_with (first
    | ((with_reducible show wpList _ _ _ (⟨some 2, _, _, _, _, _⟩ :: _) _ _); go_must (refine alloc_row rfl 24 (bytesV (List.replicate 32 0)) rfl zero_id ?_); intro w1 hr1 hbel1 hsz1; have HS1 := Lib.hid hsz1; clear hsz1)
    | (go_at_call 8; go_must (refine (sum_any none 0 0 [] _ (Parts.nil _) (hT.out.below hbel1) (by simp)).mono ?_); rintro e w4 ⟨rfl, hbel4⟩; have hr4 := hr1.below hbel4)
    | ((with_reducible show wpList _ _ _ (⟨none, .store 24 _ _, _, _, _, _⟩ :: _) _ _); go_must (refine store_row rfl 24 (.tmp 2) (.tmp 9) rfl w.heap.size 24 (bytesV (List.replicate 32 0)) (bytesV (sumF [])) rfl rfl hr4 (by rw [bytesV_length, bytesV_length, sumF_length]; rfl) (by rw [bytesV_length, sumF_length]; exact info_id) (bytesV_one _) ?_); intro w9 hr9 hgr9 hsz9))
  have hfin := (hbel1.trans (hbel4.mono hbel1.size)).grown hgr9 (by have := hbel1.size; have := hbel4.size; omega) (fun k hk => by simp at hk; omega)
  exact bodyPost_ret (results_row rfl _ _ w.heap.size 24 _ _ rfl hr9 Tryd.underlying24 rfl (by rw [bytesV_length, sumF_length]; exact info_id)) rfl ⟨rfl, hfin⟩

set_option maxRecDepth 100000 in
set_option maxHeartbeats 400000 in
theorem awake_any (w : World) (ht : Tables w) :
    Calls Tryd.prog 11 #[] w fun e w' => e = .returned (.bool true) ∧ Below w.heap.size w w' := by
  have hT := Lib.hid ht
  clear ht
  have hcv := fun (w : World) (C : Array Value) (n c : Nat) => Lib.run_convert_bytes_const (P := Tryd.prog) w 22 5 C n c Tryd.underlying22 Tryd.underlying5
  have hba := Lib.hid (Below.alloc (Below.alloc (Below.refl w.heap.size w) (Nat.le_refl _) (.cells #[.int .u8 97, .int .u8 98, .int .u8 99] 5 (3, 4))) (by simp) (.cells #[.slice (some ⟨w.heap.size, 0, none⟩) 3 3] 22))
  have hP : Parts ((w.alloc (.cells #[.int .u8 97, .int .u8 98, .int .u8 99] 5 (3, 4))).alloc (.cells #[.slice (some ⟨w.heap.size, 0, none⟩) 3 3] 22)) (some ⟨w.heap.size + 1, 0, none⟩) 1 [[97, 98, 99]] := by
    refine ⟨rfl, by omega, .inr ⟨_, _, rfl, fun j hj => ?_⟩⟩
    obtain rfl : j = 0 := by omega
    refine ⟨some ⟨w.heap.size, 0, none⟩, 3, 3, ?_, ?_⟩
    · rw [show w.heap.size + 1 = (w.alloc (.cells #[.int .u8 97, .int .u8 98, .int .u8 99] 5 (3, 4))).heap.size from by simp, World.cell?_alloc_new]
      rfl
    · refine (show Bytes (w.alloc (.cells #[.int .u8 97, .int .u8 98, .int .u8 99] 5 (3, 4))) (some ⟨w.heap.size, 0, none⟩) 3 3 [97, 98, 99] from ⟨rfl, by omega, by omega, .inr ⟨_, _, rfl, fun j hj => ?_⟩⟩).below ((Below.refl _ _).alloc (Nat.le_refl _) _)
      rw [Nat.zero_add, cell_of_row _ w.heap.size j #[.int .u8 97, .int .u8 98, .int .u8 99] 5 (3, 4) (heap_alloc_new w _)]
      match j, hj with
      | 0, _ => rfl
      | 1, _ => rfl
      | 2, _ => rfl
  have HP := Lib.hid hP
  clear hP
  go_enter Tryd.func11, Tryd.ntmps11
  go_wp2_with (first
    | (go_at_call 8; go_must (refine (sum_any (some ⟨w.heap.size + 1, 0, none⟩) 1 1 [[97, 98, 99]] _ HP.out (hT.out.below hba.out) (by simp)).mono ?_); rintro e w1 ⟨rfl, hbel1⟩)
    | ((with_reducible show wpList _ _ _ (⟨some 1, _, _, _, _, _⟩ :: _) _ _); go_must (refine alloc_row rfl 24 (bytesV (List.replicate 32 0)) rfl zero_id ?_); intro w2 hr2 hbel2 hsz2; have HS2 := Lib.hid hsz2; clear hsz2)
    | ((with_reducible show wpList _ _ _ (⟨none, .store 24 _ _, _, _, _, _⟩ :: _) _ _); go_must (refine store_row rfl 24 (.tmp 1) (.tmp 5) rfl w1.heap.size 24 (bytesV (List.replicate 32 0)) (bytesV (sumF [97, 98, 99])) rfl rfl hr2 (by rw [bytesV_length, bytesV_length, sumF_length]; rfl) (by rw [bytesV_length, sumF_length]; exact info_id) (bytesV_one _) ?_); intro w3 hr3 hgr3 hsz3; have HS3 := Lib.hid hsz3; clear hsz3; rw [sum_abc] at hr3; have c0 : w3.cell? ⟨w1.heap.size, 0, none⟩ = some (.int .u8 186) := hr3.cell 0 rfl; have c1 : w3.cell? ⟨w1.heap.size, 1, none⟩ = some (.int .u8 120) := hr3.cell 1 rfl; have c2 : w3.cell? ⟨w1.heap.size, 2, none⟩ = some (.int .u8 22) := hr3.cell 2 rfl; have c31 : w3.cell? ⟨w1.heap.size, 31, none⟩ = some (.int .u8 173) := hr3.cell 31 rfl))
  go_ret
  have hb1 := hba.out.size
  have hb2 := hbel1.size
  have hb3 := HS2.out
  refine ⟨rfl, ((hba.out.trans (hbel1.mono (by omega))).trans (hbel2.mono (by omega))).grown hgr3 (by omega) (fun k hk => by simp at hk; omega)⟩
#print axioms awake_any
end Go.Proofs.YtkjgcgdfofheeaaDoor
