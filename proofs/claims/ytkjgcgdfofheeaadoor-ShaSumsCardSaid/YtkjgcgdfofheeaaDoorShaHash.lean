/-
  A Hash in memory; the walks of New and Len.
-/
import Derived.Test.YtkjgcgdfofheeaaDoorShaTurn
namespace Go.Proofs.YtkjgcgdfofheeaaDoor
open Go.RowKit

/-- A Hash's cells. -/
def hashV (ws : List UInt32) (rs : List UInt8) (n : Nat) : List Value := wordsV ws ++ (bytesV rs ++ [.int .i64 (n : Int)])

/-- The state behind the first so many blocks of some bytes. -/
def stF (l : List UInt8) : Nat → List UInt32
  | 0 => firstH
  | k + 1 => turnF (stF l k) ((l.drop (64 * k)).take 64)

/-- Block g is a Hash to which these bytes were written. -/
def HashOf (w : World) (g : Nat) (l : List UInt8) : Prop :=
  ∃ rs : List UInt8, rs.length = 64 ∧ rs.take (l.length % 64) = l.drop (l.length / 64 * 64) ∧ RowAt w g 48 (hashV (stF l (l.length / 64)) rs l.length)

theorem turnF_length (l : List UInt32) (b : List UInt8) : (turnF l b).length = 8 := by unfold turnF; rfl
theorem stF_length (l : List UInt8) (k : Nat) : (stF l k).length = 8 := by
  cases k with
  | zero => rfl
  | succ k => exact turnF_length _ _

theorem HashOf.below {w w' : World} {g : Nat} {l : List UInt8} (h : HashOf w g l) (hb : Below w.heap.size w w') : HashOf w' g l := by
  obtain ⟨rs, h1, h2, h3⟩ := h
  exact ⟨rs, h1, h2, h3.below hb⟩

theorem HashOf.grown {w w' : World} {g : Nat} {l : List UInt8} {row : Option Nat} (h : HashOf w g l) (hg : w.grownBy w' row) (hr : some g ≠ row) : HashOf w' g l := by
  obtain ⟨rs, h1, h2, h3⟩ := h
  exact ⟨rs, h1, h2, h3.grown hg hr⟩

theorem build_hash (w : World) : (Instr.build 48 #[(0, .agg (wordsV firstH).toArray)]).run Tryd.prog w = .ok (.agg (hashV firstH (List.replicate 64 0) 0).toArray) w := by kernel_rfl

theorem hash_new (w : World) (g : Nat) (h : RowAt w g 48 (hashV firstH (List.replicate 64 0) 0)) : HashOf w g [] := ⟨List.replicate 64 0, by simp, by simp, h⟩

/-- A new block that is a Hash of nothing. -/
def NewHash (w : World) (e : Ending) (w' : World) : Prop := e = .returned (.pointer (some ⟨w.heap.size, 0, none⟩)) ∧ HashOf w' w.heap.size [] ∧ Below w.heap.size w w'

set_option maxRecDepth 100000 in
set_option maxHeartbeats 400000 in
theorem new_any (w : World) (ht : Tables w) : Calls Tryd.prog 12 #[] w (NewHash w) := by
  have hf := ht.first
  clear ht
  go_enter Tryd.func12, Tryd.ntmps12
  go_wp2_with (first
    | ((with_reducible show wpList _ _ _ (⟨some 1, _, _, _, _, _⟩ :: _) _ _); go_must (refine load_part rfl 41 (.global 0) rfl 0 0 (wordsV firstH) _ rfl hf.2 Tryd.underlying41 rfl info_8w ?_))
    | ((with_reducible show wpList _ _ _ (⟨some 2, _, _, _, _, _⟩ :: _) _ _); go_must (refine wpList_ok rfl (v := .agg (hashV firstH (List.replicate 64 0) 0).toArray) (w' := w) (by unfold execOp; simp only [List.map_toArray, List.map_cons, List.map_nil, Sem.run_bind, Sem.run_pure]; exact congrArg (fun r => Result.andThen r _) (build_hash w)) ?_))
    | ((with_reducible show wpList _ _ _ (⟨some 3, _, _, _, _, _⟩ :: _) _ _); go_must (refine box_row rfl 48 (.tmp 2) (hashV firstH (List.replicate 64 0) 0) rfl rfl ?_); intro w1 hr1 hbel1 hsz1; have HS1 := Lib.hid hsz1; clear hsz1))
  go_ret
  exact ⟨rfl, hash_new _ _ hr1, hbel1⟩

theorem hash_len {w : World} {g : Nat} {l : List UInt8} (h : HashOf w g l) : w.cell? ⟨g, 72, none⟩ = some (.int .i64 (l.length : Int)) := by
  obtain ⟨rs, h1, _, h3⟩ := h
  refine h3.cell 72 ?_
  unfold hashV
  rw [List.getElem?_append_right (by rw [wordsV_length, stF_length]; omega), wordsV_length, stF_length, List.getElem?_append_right (by rw [bytesV_length, h1]; omega), bytesV_length, h1]
  rfl

set_option maxRecDepth 100000 in
set_option maxHeartbeats 400000 in
theorem len_any (g : Nat) (l : List UInt8) (w : World) (h : HashOf w g l) :
    Calls Tryd.prog 14 #[.pointer (some ⟨g, 0, none⟩)] w fun e w' => e = .returned (.int .i64 (l.length : Int)) ∧ w = w' := by
  have hc := hash_len h
  clear h
  go_enter Tryd.func14, Tryd.ntmps14
  go_wp2
  go_ret
  exact ⟨rfl, rfl⟩

theorem len_nil (w : World) : Calls Tryd.prog 14 #[.pointer none] w fun e w' => e = .returned (.int .i64 0) ∧ w = w' := by
  go_enter Tryd.func14, Tryd.ntmps14
  go_wp2
  go_ret
  exact ⟨rfl, rfl⟩
#print axioms new_any
#print axioms len_any
end Go.Proofs.YtkjgcgdfofheeaaDoor
