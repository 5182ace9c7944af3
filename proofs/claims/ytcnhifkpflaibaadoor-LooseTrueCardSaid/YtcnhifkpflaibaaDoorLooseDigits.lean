/-
  The walk of the law's digits.
-/
import Derived.Test.YtcnhifkpflaibaaDoorLooseTwice
import Derived.Deep.QuietTactic
import Derived.BigQuiet
namespace Go.Proofs.YtcnhifkpflaibaaDoor
open Go.RowKit Go.Maps

abbrev dgS : ByteArray := ⟨#[48, 49, 50, 51, 52, 53, 54, 55, 56, 57, 97, 98, 99, 100, 101, 102]⟩
theorem dg_ext (u : Nat) (h : u < 16) : dgS.extract u (u + 1) = strB [dg u] := by
  match u, h with
  | 0, _ => rfl
  | 1, _ => rfl
  | 2, _ => rfl
  | 3, _ => rfl
  | 4, _ => rfl
  | 5, _ => rfl
  | 6, _ => rfl
  | 7, _ => rfl
  | 8, _ => rfl
  | 9, _ => rfl
  | 10, _ => rfl
  | 11, _ => rfl
  | 12, _ => rfl
  | 13, _ => rfl
  | 14, _ => rfl
  | 15, _ => rfl
  | k + 16, h => omega
theorem strB_app (x y : List UInt8) : strB x ++ strB y = strB (x ++ y) := by
  apply ByteArray.ext
  simp [strB]
set_option maxRecDepth 100000 in
set_option maxHeartbeats 2000000 in
theorem digits_any (l : List UInt8) (hl : l.length = 32) (w : World) :
    Calls Tryd.prog 17 #[.agg (idCells l)] w fun e w' => e = .returned (.string (strB (hexF l))) ∧ Below w.heap.size w w' := by
  have HL := Lib.hid hl
  have hi0 := idAt_box w l hl
  have HI := Lib.hid hi0
  have HB := Lib.hid ((Below.refl w.heap.size w).alloc (Nat.le_refl _) (.cells (idCells l) 35))
  have HE0 := Lib.hid (show strB (hexF (l.take 0)) = ⟨#[]⟩ from rfl)
  clear hl
  go_enter Tryd.func17, Tryd.ntmps17
  go_wp2
  go_loopg [4, 5] 32 (fun g v4 v5 W => ∃ (i : Nat) (s : ByteArray), g + i = 32 ∧ v5 = .int .i64 i ∧ v4 = .string s ∧ Hid (s = strB (hexF (l.take i))) ∧ Below (w.alloc (.cells (idCells l) 35)).heap.size (w.alloc (.cells (idCells l) 35)) W)
  case atStart => exact ⟨0, _, rfl, rfl, rfl, HE0, Below.refl _ _⟩
  case round =>
    obtain ⟨i, s, hg, rfl, rfl, HS, hbw⟩ := hrel
    have HG := Lib.hid hg
    have HBW := Lib.hid hbw
    have hi0' : (0 : Int) ≤ (i : Int) := by omega
    have hiI : (i : Int) ≤ 32 := by omega
    by_cases hi : (i : Int) < 32
    · have hin : i < 32 := by omega
      obtain ⟨c, hc⟩ : ∃ c, c = l.getD i 0 := ⟨_, rfl⟩
      obtain ⟨u, hu⟩ : ∃ u, u = c.toNat / 16 := ⟨_, rfl⟩
      obtain ⟨v, hv⟩ : ∃ v, v = c.toNat % 16 := ⟨_, rfl⟩
      have hct := c.toNat_lt
      have hu16 : u < 16 := by omega
      have hv16 : v < 16 := by omega
      have hu16i : (u : Int) < 16 := by omega
      have hv16i : (v : Int) < 16 := by omega
      have hu0 : (0 : Int) ≤ (u : Int) := by omega
      have hv0 : (0 : Int) ≤ (v : Int) := by omega
      have r1 : (c.toNat : Int) / 16 = (u : Int) := by omega
      have r2 : bits .and .u8 (c.toNat : Int) 15 = (v : Int) := by rw [and_15, hv]
      have cc : wr.cell? ⟨w.heap.size, i, none⟩ = some (.int .u8 (c.toNat : Int)) := by
        have := HI.out.cell i hin
        rw [← hc] at this
        exact (hbw.cell (World.block_lt_of_cell? _ _ this)).trans this
      have HNX := Lib.hid (show strB (hexF (l.take (i + 1))) = s ++ (dgS.extract u (u + 1) ++ dgS.extract v (v + 1)) by
        rw [hexF_next l i (by rw [HL.out]; exact hin), ← hc, ← hu, ← hv, HS.out, dg_ext u hu16, dg_ext v hv16, strB_app, strB_app]
        rfl)
      have hz : s.size ≤ 64 := by rw [HS.out, strB_size, hexF_length, List.length_take]; omega
      have hzu : (dgS.extract u (u + 1)).size = 1 := by rw [dg_ext u hu16]; rfl
      have hzv : (dgS.extract v (v + 1)).size = 1 := by rw [dg_ext v hv16]; rfl
      clear hg hc hu hv hct hin hbw
      go_wp2
      go_quiet (fail)
      have hbq : Below (w.alloc (.cells (idCells l) 35)).heap.size (w.alloc (.cells (idCells l) 35)) (wr.drewN nq) := ⟨HBW.out.os, HBW.out.tape, HBW.out.output, HBW.out.size, HBW.out.block⟩
      have HBQ := Lib.hid hbq
      clear hbq
      go_wp2
      go_roundg (gk - 1)
      case measure => have := HG.out; omega
      case rel => exact ⟨i + 1, _, by have := HG.out; omega, by go_num, rfl, Lib.hid HNX.out.symm, HBQ.out⟩
    · have hs : s = strB (hexF l) := by
        rw [HS.out, List.take_of_length_le (by rw [HL.out]; omega)]
      have HSE := Lib.hid hs
      clear hg hs
      go_wp2
      go_ret
      exact ⟨by rw [HSE.out]; rfl, HB.out.trans (HBW.out.mono HB.out.size)⟩
#print axioms digits_any
end Go.Proofs.YtcnhifkpflaibaaDoor
