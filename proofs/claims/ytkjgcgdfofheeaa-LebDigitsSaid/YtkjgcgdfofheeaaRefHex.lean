/-
  The walk of the document's own Hex.
-/
import Derived.Test.YtkjgcgdfofheeaaHex
namespace Go.Proofs.Ytkjgcgdfofheeaa
open Go.RowKit

theorem cat_run (l m : List UInt8) (h : l.length + m.length ≤ 9223372036854775807) (W : World) : (Op.stringOp .add (strB l) (strB m)).run Try.prog W = .ok (.string (strB (l ++ m))) W := by
  have hm : ¬ (((strB l).size + (strB m).size : Nat) : Int) > IntKind.i64.max := by
    rw [strB_size, strB_size]
    simp only [IntKind.max, IntKind.signed, IntKind.bits]
    simp; omega
  unfold Op.stringOp
  simp only [hm, if_false, Sem.run_pure]
  congr 2

theorem digit_cut (u : Nat) (hu : u < 16) : (ByteArray.mk #[48, 49, 50, 51, 52, 53, 54, 55, 56, 57, 97, 98, 99, 100, 101, 102]).extract u (u + 1) = strB [dg u] := by
  match u, hu with
  | 0, _ => rfl
  | 1, _ => rfl
  | 2, _ => rfl
  | 3, _ => rfl
  | 4, _ => rfl
  | 5, _ => rfl
  | 6, _ => rfl
  | 7, _ => rfl
  | 8, _ => rfl
  | 9, _ => rfl
  | 10, _ => rfl
  | 11, _ => rfl
  | 12, _ => rfl
  | 13, _ => rfl
  | 14, _ => rfl
  | 15, _ => rfl
  | k + 16, h => omega

set_option maxRecDepth 100000 in
set_option maxHeartbeats 2000000 in
theorem refHex_any (l : List UInt8) (hl : l.length = 32) (w : World) :
    Calls Try.prog 24 #[.agg (idCells l)] w (HexIs l w) := by
  have HL := Lib.hid hl
  have hi0 := idAt_box w l hl
  have hb0 : Below w.heap.size w (w.alloc (.cells (idCells l) 41)) := (Below.refl _ _).alloc (Nat.le_refl _) _
  clear hl
  go_enter Try.func24, Try.ntmps24
  go_wp2
  go_loopg [4, 5] 32 (fun gh v4 v5 W => ∃ i : Nat, gh + i = 32 ∧ v5 = .int .i64 i ∧ v4 = .string (strB (hexF (l.take i))) ∧ IdAt W w.heap.size l ∧ Below w.heap.size w W)
  case atStart => exact ⟨0, rfl, rfl, rfl, hi0, hb0⟩
  case round =>
    obtain ⟨i, hg, rfl, rfl, hid, hbel⟩ := hrel
    have HG := Lib.hid hg
    have hi32 : i ≤ 32 := by omega
    clear hg hi0 hb0
    by_cases hi : i < 32
    · obtain ⟨c, hc⟩ : ∃ c, c = l.getD i 0 := ⟨_, rfl⟩
      obtain ⟨u, hu⟩ : ∃ u, u = c.toNat / 16 := ⟨_, rfl⟩
      obtain ⟨v, hv⟩ : ∃ v, v = c.toNat % 16 := ⟨_, rfl⟩
      have hct := c.toNat_lt
      have hu16 : u < 16 := by omega
      have hv16 : v < 16 := by omega
      have hu16i : (u : Int) < 16 := by omega
      have hv16i : (v : Int) < 16 := by omega
      have hcell : wr.cell? ⟨w.heap.size, i, none⟩ = some (.int .u8 (c.toNat : Int)) := by rw [hc]; exact hid.cell i hi
      have r1 : (c.toNat : Int) / 16 = (u : Int) := by omega
      have r2 : (c.toNat : Int) % 16 = (v : Int) := by omega
      have r1t : (c.toNat : Int).tdiv 16 = (u : Int) := by rw [Int.tdiv_eq_ediv_of_nonneg (by omega)]; exact r1
      have r2t : (c.toNat : Int).tmod 16 = (v : Int) := by rw [Int.tmod_eq_emod_of_nonneg (by omega)]; exact r2
      have HNX := Lib.hid (show hexF (l.take (i + 1)) = hexF (l.take i) ++ [dg u, dg v] by rw [hexF_next l i (by rw [HL.out]; exact hi), ← hc, ← hu, ← hv])
      have HLN := Lib.hid (show (hexF (l.take i)).length ≤ 64 by rw [hexF_length]; have := HL.out; simp; omega)
      clear hc hu hv
      go_wp2
      go_quiet (fail)
      obtain ⟨w5, hw5⟩ : ∃ w5, w5 = wr.drewN nq := ⟨_, rfl⟩
      have f5 : IdAt w5 w.heap.size l := by rw [hw5]; exact hid.drewN nq
      have b5 : Below w.heap.size w w5 := by rw [hw5]; exact below_drewN hbel nq
      rw [← hw5]
      clear hw5 hid hbel
      go_wp2
      clear r1 r2 r1t r2t hcell
      have p0 : (0 : Int) ≤ (u : Int) + 1 := by omega
      have p1 : (0 : Int) ≤ (v : Int) + 1 := by omega
      have q0 : (u : Int) + 1 ≤ 16 := by omega
      have q1 : (v : Int) + 1 ≤ 16 := by omega
      have o0 : (u : Int) ≤ (u : Int) + 1 := by omega
      have o1 : (v : Int) ≤ (v : Int) + 1 := by omega
      have t0 : ((u : Int) + 1).toNat = u + 1 := by omega
      have t1 : ((v : Int) + 1).toNat = v + 1 := by omega
      have w0 : IntKind.i64.wrap ((u : Int) + 1) = (u : Int) + 1 := by rw [IntKind.wrap_i64]; omega
      have w1 : IntKind.i64.wrap ((v : Int) + 1) = (v : Int) + 1 := by rw [IntKind.wrap_i64]; omega
      have x0 := digit_cut u hu16
      have x1 := digit_cut v hv16
      have k0 := cat_run [dg u] [dg v] (by simp)
      have k1 := cat_run (hexF (l.take i)) ([dg u] ++ [dg v]) (by have := HLN.out; simp; omega)
      rw [show [dg u] ++ [dg v] = [dg u, dg v] from rfl] at k0 k1
      rw [← HNX.out] at k1
      go_quiet (fail)
      obtain ⟨w6, hw6⟩ : ∃ w6, w6 = w5.drewN nq := ⟨_, rfl⟩
      have f6 : IdAt w6 w.heap.size l := by rw [hw6]; exact f5.drewN nq
      have b6 : Below w.heap.size w w6 := by rw [hw6]; exact below_drewN b5 nq
      rw [← hw6]
      clear hw6 f5 b5 p0 p1 q0 q1 o0 o1 t0 t1 w0 w1 x0 x1 k0 k1
      go_wp2
      go_roundg (gk - 1)
      case measure => have := HG.out; omega
      case rel => exact ⟨i + 1, by have := HG.out; omega, by go_num, rfl, f6, b6⟩
    · obtain rfl : i = 32 := by omega
      have htk : l.take 32 = l := List.take_of_length_le (by have := HL.out; omega)
      rw [htk]
      clear htk hi
      go_wp2
      go_ret
      exact ⟨rfl, hbel⟩
#print axioms refHex_any
end Go.Proofs.Ytkjgcgdfofheeaa
