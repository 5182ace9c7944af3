/-
  The walks of HasPrefix and of Starts, the program's and the document's.
-/
import Derived.Test.YtkjgcgdfofheeaaRefHex
import Derived.Test.YtkjgcgdfofheeaaIdsG
namespace Go.Proofs.Ytkjgcgdfofheeaa
open Go.RowKit

/-- Does the one begin with the other? -/
def preF (m p : List UInt8) : Bool := p.isPrefixOf m
/-- Do an id's digits begin with some? -/
def startsF (l p : List UInt8) : Bool := !p.isEmpty && preF (hexF l) p

theorem preF_long (m p : List UInt8) (h : m.length < p.length) : preF m p = false := by
  unfold preF
  rw [Bool.eq_false_iff]
  intro hc
  have := (List.isPrefixOf_iff_prefix.1 hc).length_le
  omega

theorem preF_cut (m : List UInt8) (p : ByteArray) : (((strB m).extract 0 p.size).toList == p.toList) = preF m p.data.toList := by
  have e : ((strB m).extract 0 p.size).data.toList = m.take p.size := by simp [strB, ByteArray.data_extract]
  have e1 : ∀ b : ByteArray, b.toList = b.data.toList := fun b => ByteArray.toList_eq b
  rw [e1, e1, e]
  unfold preF
  have hp : p.size = p.data.toList.length := by simp
  rw [Bool.eq_iff_iff, beq_iff_eq, List.isPrefixOf_iff_prefix, List.prefix_iff_eq_take, hp]
  exact eq_comm

theorem preF_empty (m : List UInt8) : preF m [] = true := rfl
#print axioms preF_cut

set_option maxRecDepth 100000 in
set_option maxHeartbeats 400000 in
theorem litePrefix_any (m : List UInt8) (p : ByteArray) (w : World) :
    Calls Try.prog 36 #[.string (strB m), .string p] w fun e w' => e = .returned (.bool (preF m p.data.toList)) ∧ w = w' := by
  have hsz := strB_size m
  by_cases h : p.size ≤ m.length
  · have hE := preF_cut m p
    have hd : decide ((p.size : Int) ≤ ((strB m).size : Int)) = true := by rw [hsz]; simp; omega
    have hi : (p.size : Int) ≤ ((strB m).size : Int) := by rw [hsz]; omega
    clear hsz
    go_enter Try.func36, Try.ntmps36
    go_wp2
    go_ret
    exact ⟨rfl, rfl⟩
  · have hd : decide ((p.size : Int) ≤ ((strB m).size : Int)) = false := by rw [hsz]; simp; omega
    have HE := Lib.hid (preF_long m p.data.toList (by simp; omega))
    rw [HE.out]
    clear hsz
    go_enter Try.func36, Try.ntmps36
    go_wp2
    go_ret
    exact ⟨rfl, rfl⟩

set_option maxRecDepth 100000 in
set_option maxHeartbeats 400000 in
theorem hasPrefix_any (m : List UInt8) (p : ByteArray) (w : World) :
    Calls Try.prog 33 #[.string (strB m), .string p] w fun e w' => e = .returned (.bool (preF m p.data.toList)) ∧ w = w' := by
  go_enter Try.func33, Try.ntmps33
  go_wp2_with (go_at_call 36; go_must (refine (litePrefix_any m p _).mono ?_); rintro e w1 ⟨rfl, rfl⟩)
  go_ret
  exact ⟨rfl, rfl⟩

theorem retB {a b : Bool} (h : a = b) : Ending.returned (.bool a) = .returned (.bool b) := by rw [h]

set_option maxRecDepth 100000 in
set_option maxHeartbeats 400000 in
theorem starts_any (l : List UInt8) (hl : l.length = 32) (p : ByteArray) (w : World) :
    Calls Try.prog 25 #[.agg (idCells l), .string p] w fun e w' => e = .returned (.bool (startsF l p.data.toList)) ∧ Below w.heap.size w w' := by
  have HL := Lib.hid hl
  have hi0 := idAt_box w l hl
  have hb0 : Below w.heap.size w (w.alloc (.cells (idCells l) 41)) := (Below.refl _ _).alloc (Nat.le_refl _) _
  have hx : p.toList = p.data.toList := ByteArray.toList_eq p
  by_cases h0 : p.data.toList = []
  · have HS := Lib.hid (show startsF l p.data.toList = false by unfold startsF; rw [h0]; rfl)
    have h1 : p.toList = [] := by rw [hx, h0]
    clear hl hx h0
    go_enter Try.func25, Try.ntmps25
    go_wp2
    go_ret
    exact ⟨retB HS.out.symm, hb0⟩
  · have HS := Lib.hid (show startsF l p.data.toList = preF (hexF l) p.data.toList by unfold startsF; cases hq : p.data.toList with | nil => exact absurd hq h0 | cons c r => simp)
    have h1 : (p.toList.isEmpty) = false := by rw [hx]; cases hq : p.data.toList with | nil => exact absurd hq h0 | cons c r => rfl
    have h2 : (!p.toList.isEmpty) = true := by rw [h1]; rfl
    have h3 : ¬ p.toList = [] := by rw [hx]; exact h0
    have h4 : (p.toList != []) = true := by rw [bne_iff_ne]; exact h3
    clear hl hx h0
    go_enter Try.func25, Try.ntmps25
    go_wp2_with (first
      | ((with_reducible show wpList _ _ _ (⟨some 8, _, _, _, _, _⟩ :: _) _ _); refine load_idG (by rfl) (.tmp 2) rfl _ _ rfl hi0 ?_)
      | (go_at_call 23; go_must (refine (hex_any l HL.out _).mono ?_); rintro e w1 ⟨rfl, hb1⟩)
      | (go_at_call 33; go_must (refine (hasPrefix_any (hexF l) p _).mono ?_); rintro e w2 ⟨rfl, rfl⟩))
    go_ret
    exact ⟨retB HS.out.symm, hb0.trans (hb1.mono hb0.size)⟩

set_option maxRecDepth 100000 in
set_option maxHeartbeats 400000 in
theorem refStarts_any (l : List UInt8) (hl : l.length = 32) (p : ByteArray) (w : World) :
    Calls Try.prog 26 #[.agg (idCells l), .string p] w fun e w' => e = .returned (.bool (startsF l p.data.toList)) ∧ Below w.heap.size w w' := by
  have HL := Lib.hid hl
  have hi0 := idAt_box w l hl
  have hb0 : Below w.heap.size w (w.alloc (.cells (idCells l) 41)) := (Below.refl _ _).alloc (Nat.le_refl _) _
  have hps : p.size = p.data.toList.length := by simp
  have hxl := hexF_length l
  by_cases h1 : 1 ≤ p.size
  · by_cases h2 : p.size ≤ 64
    · have HS := Lib.hid (show startsF l p.data.toList = preF (hexF l) p.data.toList by unfold startsF; cases hq : p.data.toList with | nil => rw [hq, List.length_nil] at hps; omega | cons c r => simp)
      have hE := preF_cut (hexF l) p
      have hd1 : decide ((1 : Int) ≤ (p.size : Int)) = true := by simp; omega
      have hd2 : decide ((p.size : Int) ≤ 64) = true := by simp; omega
      have hle : (p.size : Int) ≤ ((strB (hexF l)).size : Int) := by rw [strB_size]; omega
      clear hl hps hxl
      go_enter Try.func26, Try.ntmps26
      go_wp2_with (first
        | ((with_reducible show wpList _ _ _ (⟨some 6, _, _, _, _, _⟩ :: _) _ _); refine load_id rfl (.tmp 2) rfl _ _ rfl hi0 ?_)
        | (go_at_call 24; go_must (refine (refHex_any l HL.out _).mono ?_); rintro e w1 ⟨rfl, hb1⟩))
      go_ret
      exact ⟨retB HS.out.symm, hb0.trans (hb1.mono hb0.size)⟩
    · have HS := Lib.hid (show startsF l p.data.toList = false by unfold startsF; rw [preF_long _ _ (by omega)]; simp)
      have hd1 : decide ((1 : Int) ≤ (p.size : Int)) = true := by simp; omega
      have hd2 : decide ((p.size : Int) ≤ 64) = false := by simp; omega
      clear hl hps hxl
      go_enter Try.func26, Try.ntmps26
      go_wp2_with (first
        | ((with_reducible show wpList _ _ _ (⟨some 6, _, _, _, _, _⟩ :: _) _ _); refine load_id rfl (.tmp 2) rfl _ _ rfl hi0 ?_)
        | (go_at_call 24; go_must (refine (refHex_any l HL.out _).mono ?_); rintro e w1 ⟨rfl, hb1⟩))
      go_ret
      exact ⟨retB HS.out.symm, hb0.trans (hb1.mono hb0.size)⟩
  · have HS := Lib.hid (show startsF l p.data.toList = false by rw [List.length_eq_zero_iff.1 (show p.data.toList.length = 0 by omega)]; rfl)
    have hd1 : decide ((1 : Int) ≤ (p.size : Int)) = false := by simp; omega
    clear hl hps hxl
    go_enter Try.func26, Try.ntmps26
    go_wp2_with (first
      | ((with_reducible show wpList _ _ _ (⟨some 6, _, _, _, _, _⟩ :: _) _ _); refine load_id rfl (.tmp 2) rfl _ _ rfl hi0 ?_)
      | (go_at_call 24; go_must (refine (refHex_any l HL.out _).mono ?_); rintro e w1 ⟨rfl, hb1⟩))
    go_ret
    exact ⟨retB HS.out.symm, hb0.trans (hb1.mono hb0.size)⟩
#print axioms refStarts_any
end Go.Proofs.Ytkjgcgdfofheeaa
