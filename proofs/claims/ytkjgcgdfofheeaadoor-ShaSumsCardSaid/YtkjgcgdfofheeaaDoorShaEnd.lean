/-
  The walk of ending: what follows so many bytes.
-/
import Derived.Test.YtkjgcgdfofheeaaDoorShaHash
import Derived.Deep.LoopGhost
namespace Go.Proofs.YtkjgcgdfofheeaaDoor
open Go.RowKit

/-- How many zeros. -/
def zerosF (n : Nat) : Nat := if n % 64 ≤ 55 then 55 - n % 64 else 119 - n % 64
/-- The first bytes of the number of bits. -/
def lenB (n i : Nat) : List UInt8 := (List.range i).map fun j => UInt8.ofNat (n * 8 / 2 ^ (8 * (7 - j)) % 256)
/-- What follows. -/
def endF (n : Nat) : List UInt8 := 128 :: (List.replicate (zerosF n) 0 ++ lenB n 8)

theorem lenB_next (n i : Nat) : lenB n (i + 1) = lenB n i ++ [UInt8.ofNat (n * 8 / 2 ^ (8 * (7 - i)) % 256)] := by
  unfold lenB; rw [List.range_succ, List.map_append]; rfl

theorem make_bytes {w : World} {ops : Array Oper} {rest : List Oper} {o : Oper} {a : Act} {Q : Exit → Act → World → Prop} (hgd : o.guard = none) (x y : Operand) (ho : o.op = .makeSlice 22 x y)
    (L C : Nat) (zl zc : Int) (hx : a.eval x = .int .i64 zl) (hy : a.eval y = .int .i64 zc) (hl : zl = L) (hc : zc = C) (hLC : L ≤ C) (hC : C ≤ 1000000)
    (h : ∀ w1, Own w1 w.heap.size (.slice (some ⟨w.heap.size, 0, none⟩) L C) (List.replicate L 0) → Below w.heap.size w w1 → w1.heap.size = w.heap.size + 1 → wpList Tryd.prog ops Q rest (a.put o.dst (.slice (some ⟨w.heap.size, 0, none⟩) L C)) w1) :
    wpList Tryd.prog ops Q (o :: rest) a w := by
  obtain ⟨i0, hi, hz0, hz1, hz2⟩ := info_parts Tryd.info5
  subst hl hc
  have hr := run_make (P := Tryd.prog) w 22 5 i0 (.int .u8 0) Tryd.underlying22 hi hz0 .i64 .i64 (L : Int) (C : Int) (by omega) (by omega) (by rw [hz2]; omega) (by omega)
  simp only [Int.toNat_natCast] at hr
  refine wpList_ok (w' := w.alloc (.cells (madeCells (Value.int .u8 0).cells (C * i0.size)) 5)) hgd (by unfold execOp; simp only [ho, hx, hy, Sem.run_bind, hr, Result.andThen_ok, Sem.run_pure]) (h _ ⟨by simp, .inr ⟨w.heap.size, C, _, by simp, Nat.le_refl _, heap_alloc_new w _, by simpa using hLC, by unfold maxLen; omega, ?_, ?_⟩⟩ ((Below.refl _ _).alloc (Nat.le_refl _) _) (by simp))
  · rw [size_madeCells, hz1, Nat.mul_one]
  · rw [hz1]
    have h1 : (Value.int IntKind.u8 0).cells = #[.int .u8 0] := rfl
    rw [h1, Nat.mul_one, toList_madeCells_one]
    simp [B, Nat.min_eq_left hLC]

theorem own_set {w : World} {base g n c : Nat} {l : List UInt8} (h : Own w base (.slice (some ⟨g, 0, none⟩) n c) l) (j : Nat) (x : UInt8) :
    Own (w.setCell ⟨g, j, none⟩ (.int .u8 (x.toNat : Int))) base (.slice (some ⟨g, 0, none⟩) n c) (l.set j x) := by
  have hn := h.len
  subst hn
  have := (World.ownsRow.stored h j (B x)).1
  unfold Own
  rw [List.length_set, List.map_set]
  exact this

theorem own_cell {w : World} {base g n c : Nat} {l : List UInt8} (h : Own w base (.slice (some ⟨g, 0, none⟩) n c) l) (j : Nat) (hj : j < l.length) : w.cell? ⟨g, j, none⟩ = some (.int .u8 ((l.getD j 0).toNat : Int)) ∧ w.frozen? ⟨g, j, none⟩ = false ∧ base ≤ g := by
  have hn := h.len
  subst hn
  refine ⟨?_, World.ownsRow.frozenAt h j, (World.ownsRow.lt h g rfl).1⟩
  rw [World.ownsRow.cellAt h j (by omega)]
  simp [hj, B]

theorem byte_form (n i : Nat) : (n : Int) * 8 / 2 ^ (8 * (7 - i)) % 256 = ((UInt8.ofNat (n * 8 / 2 ^ (8 * (7 - i)) % 256)).toNat : Int) := by
  have h : (UInt8.ofNat (n * 8 / 2 ^ (8 * (7 - i)) % 256)).toNat = n * 8 / 2 ^ (8 * (7 - i)) % 256 := by simp
  rw [h]; simp

set_option maxRecDepth 100000 in
set_option maxHeartbeats 400000 in
theorem ending_any (n : Nat) (w : World) (hn : n ≤ 1000000000000000) :
    Calls Tryd.prog 20 #[.int .i64 n] w (Made w (endF n)) := by
  have hz : zerosF n < 64 := by unfold zerosF; split <;> omega
  have hcase : ((n : Int) % 64 ≤ 55 ∧ zerosF n = 55 - n % 64) ∨ (¬ (n : Int) % 64 ≤ 55 ∧ zerosF n = 119 - n % 64) := by
    unfold zerosF
    by_cases h : n % 64 ≤ 55
    · exact .inl ⟨by omega, by rw [if_pos h]⟩
    · exact .inr ⟨by omega, by rw [if_neg h]⟩
  obtain ⟨z, hzz⟩ : ∃ z, z = zerosF n := ⟨_, rfl⟩
  rw [← hzz] at hz hcase
  have HZ := Lib.hid hzz
  clear hzz
  rcases hcase with ⟨hc, hzv⟩ | ⟨hc, hzv⟩
  all_goals
    have HV := Lib.hid hzv
    have hzi := Lib.hid (show (1 : Int) + (z : Int) = ((1 + z : Nat) : Int) by omega)
    clear hzv
    try have t1 : decide (55 - (n : Int) % 64 < 0) = false := by simp; omega
    go_enter Tryd.func20, Tryd.ntmps20
    go_wp2_with ((with_reducible show wpList _ _ _ (⟨some 19, _, _, _, _, _⟩ :: _) _ _); go_must (refine make_bytes rfl (.tmp 15) (.tmp 18) rfl (1 + z) (1 + z + 8) _ _ rfl rfl (by have := HV.out; omega) (by have := HV.out; omega) (by omega) (by omega) ?_); intro w1 hown1 hbel1 hsz1; have HS1 := Lib.hid hsz1; clear hsz1; obtain ⟨hc0, hf0, _⟩ := own_cell hown1 0 (by simp; omega))
    have hown2 := own_set hown1 0 128
    have hl2 : (List.replicate (1 + z) (0 : UInt8)).set 0 128 = 128 :: (List.replicate z 0 ++ lenB n 0) := by
      rw [Nat.add_comm, List.replicate_succ]; simp [lenB]
    rw [hl2] at hown2
    have hbel2 : Below w.heap.size w (w1.setCell ⟨w.heap.size, 0, none⟩ (.int .u8 128)) := hbel1.setCell (Nat.le_refl _) _
    go_loopg [4, 25] 8 (fun gh v4 v25 W => ∃ i : Nat, gh + i = 8 ∧ v25 = .int .i64 i ∧ Own W w.heap.size v4 (128 :: (List.replicate z 0 ++ lenB n i)) ∧ Below w.heap.size w W)
    case atStart => exact ⟨0, rfl, rfl, hown2, hbel2⟩
    case round =>
      obtain ⟨i, hg, rfl, hown, hbel⟩ := hrel
      have HG := Lib.hid hg
      have hi8 : i ≤ 8 := by omega
      clear hg hown1 hbel1 hown2 hbel2 hl2 hc0 hf0
      by_cases hi : i < 8
      · have hB := Lib.hid (byte_form n i)
        have hsz := hbel.size
        go_wp2_with (at_builtin; go_must (refine app_bytes rfl (.tmp 28) (.tmp 35) rfl w.heap.size _ _ rfl (hown.alloc _) (some ⟨wr.heap.size, 0, none⟩) 1 1 [UInt8.ofNat (n * 8 / 2 ^ (8 * (7 - i)) % 256)] rfl (by rw [hB.out]; exact bytes_one _ _) (by simp [lenB]; omega) (by simp; omega) ?_); intro v' w3 hown3 hgr3)
        go_roundg (gk - 1)
        case measure => have := HG.out; omega
        case rel =>
          refine ⟨i + 1, by have := HG.out; omega, by go_num, ?_, (hbel.alloc hsz _).grown hgr3 (by simp; omega) hown.grown⟩
          rw [lenB_next]
          simpa using hown3
      · obtain rfl : i = 8 := by omega
        go_wp2
        go_ret
        exact Made.of (by unfold endF; rw [← HZ.out]; exact hown) hbel
#print axioms ending_any
end Go.Proofs.YtkjgcgdfofheeaaDoor
