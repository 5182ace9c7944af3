/-
  Around, near walked.
-/
import Derived.Test.YtbfaaphijgmabaaDoorMyFns
import Derived.Test.YtbfaaphijgmabaaDoorRow
import Derived.Deep.RegionHeld3
namespace Go.Proofs.YtbfaaphijgmabaaDoor
open Go.RowKit My

theorem wl_maxI {P : Program} {w : World} {ops : Array Oper} {rest : List Oper} {o : Oper} {a : Act} {Q : Exit → Act → World → Prop} (hgd : o.guard = none) (x y : Operand) (ats : Array TypeId)
    (ho : o.op = .call { callee := .builtin .max, args := #[x, y], argTypes := ats }) (X Y Z : Int) (hx : a.eval x = .int .i64 X) (hy : a.eval y = .int .i64 Y) (hz : Z = if X < Y then Y else X)
    (h : wpList P ops Q rest (a.put o.dst (.int .i64 Z)) w) : wpList P ops Q (o :: rest) a w := by
  refine wpList_ok hgd (v := .int .i64 Z) ?_ h
  subst hz
  obtain ⟨dst, op, ty, pos, after, guard⟩ := o
  subst ho
  simp only [BigFrame.execOp_builtin, BigFrame.builtin_max]
  simp [hx, hy, Builtin.max_, Builtin.max2]
def TwoIs (x y : Int) (w : World) (e : Ending) (w' : World) : Prop := e = .returned (.tuple #[.int .i64 x, .int .i64 y]) ∧ Below w.heap.size w w'
abbrev lstC (low : Int) (a : Option Addr) (n c : Nat) : List Value := [.int .i64 low, .slice a n c]
theorem infoL : (Tryd.prog.info? 77).map (·.size) = some 2 := by kernel_rfl
set_option maxRecDepth 100000 in
set_option maxHeartbeats 2000000 in
theorem around_any (g : Nat) (nn mm : Nat) (low : Int) (a : Option Addr) (n c : Nat) (l : List Int) (w : World) (h : Lst w a n c l) (hlo : -8192 ≤ low) (hhi : low ≤ 8192) (hlm : -(mm : Int) ≤ low) (hln : low + 2 * (n : Int) - 2 ≤ nn) (hn0 : 1 ≤ n) (hmm : mm ≤ 4096) (hnn : nn ≤ 4096)
    (hg0 : w.cell? ⟨g, 0, none⟩ = some (.int .i64 nn)) (hg1 : w.cell? ⟨g, 1, none⟩ = some (.int .i64 mm)) :
    Calls Tryd.prog 45 #[.pointer (some ⟨g, 0, none⟩), .agg #[.int .i64 low, .slice a n c]] w (TwoIs (lowF mm low l) (highF nn low l) w) := by
  have HL := Lib.hid h
  have hlen := Lib.hid h.runs.1
  have hnI : (n : Int) ≤ 8193 := by have := h.few; omega
  have hnI0 : (1 : Int) ≤ (n : Int) := by omega
  have hmI : (mm : Int) ≤ 4096 := by omega
  have hnnI : (nn : Int) ≤ 4096 := by omega
  have hmI0 : (0 : Int) ≤ (mm : Int) := by omega
  have hnnI0 : (0 : Int) ≤ (nn : Int) := by omega
  have HH := Lib.hid (fun W => high_any low a n c W (by omega) hlo hhi)
  have HR1 := Lib.hid (fun W (hb : Below w.heap.size w W) => reaches_any low a n c l (mm + low) mm W (h.below hb) hlo hhi (by omega) (by omega) (by omega) (by omega))
  have HR2 := Lib.hid (fun W (hb : Below w.heap.size w W) => reaches_any low a n c l nn (nn - (low + 2 * n - 2)) W (h.below hb) hlo hhi (by omega) (by omega) (by omega) (by omega))
  obtain ⟨b1, hb1⟩ : ∃ b, reachF low l (mm + low) mm = b := ⟨_, rfl⟩
  obtain ⟨b2, hb2⟩ : ∃ b, reachF low l nn (nn - (low + 2 * n - 2)) = b := ⟨_, rfl⟩
  rw [hb1] at HR1
  rw [hb2] at HR2
  have HZ1 := Lib.hid (show lowF mm low l = if b1 = true then low - 1 + 2 else low - 1 by unfold lowF; rw [hb1]; split <;> omega)
  have HZ2 := Lib.hid (show highF nn low l = if b2 = true then low + 2 * n - 2 + 1 - 2 else low + 2 * n - 2 + 1 by unfold highF; rw [hlen.out, hb2]; split <;> omega)
  have HG0 := Lib.hid hg0
  have HG1 := Lib.hid hg1
  clear h hb1 hb2 hlm hmm hnn hg0 hg1
  have W1 := Lib.hid (IntWalk.i64_in (low - 1) (by omega))
  have W2 := Lib.hid (IntWalk.i64_in (low + 2 * (n : Int) - 2 + 1) (by omega))
  have W3 := Lib.hid (IntWalk.i64_in ((mm : Int) + low) (by omega))
  have W4 := Lib.hid (IntWalk.i64_in ((nn : Int) - (low + 2 * (n : Int) - 2)) (by omega))
  have W5 := Lib.hid (IntWalk.i64_in (low - 1 + 2) (by omega))
  have W6 := Lib.hid (IntWalk.i64_in (low + 2 * (n : Int) - 2 + 1 - 2) (by omega))
  clear hmI hnnI hmI0 hnnI0 hnI hnI0 hlo hhi hln hn0
  cases b1 <;> cases b2
  all_goals
    go_enter Tryd.func45, Tryd.ntmps45
    go_wp2_with (refine box_row rfl 77 (.tmp 1) (lstC low a n c) rfl rfl ?_; intro w1 hr1 hb1 hs1; have HB1 := Lib.hid hb1; have R1 := Lib.hid hr1; clear hr1 hb1 hs1)
    have c0 := R1.out.cell 0 rfl
    have c1 := R1.out.cell 1 rfl
    have x1 := W1.out
    have x2 := W2.out
    go_region_held3 (fun W => W.cell? ⟨w.heap.size, 0, none⟩ = some (.int .i64 low) ∧ W.cell? ⟨w.heap.size, 1, none⟩ = some (.slice a n c)) (first | exact ⟨c0, c1⟩ | exact ⟨d0, d1⟩) (first | (go_at_call 51; (refine (HH.out _).mono ?_); rintro e w2 ⟨rfl, hb2⟩; have hb3 : Below w1.heap.size w1 w2 := (Below.refl w1.heap.size w1).drew.trans hb2; have R2 := Lib.hid (R1.out.below hb3); have HB2 := Lib.hid (HB1.out.trans (hb3.mono HB1.out.size)); have d0 := R2.out.cell 0 rfl; have d1 := R2.out.cell 1 rfl; clear hb2 hb3))
    clear c0 c1 x1 x2
    have e0 := (HB2.out.cell (World.block_lt_of_cell? _ _ HG0.out)).trans HG0.out
    have e1 := (HB2.out.cell (World.block_lt_of_cell? _ _ HG1.out)).trans HG1.out
    have x3 := W3.out
    go_wp2_with fail
    go_region_held3 (fun W => W.cell? ⟨w.heap.size, 0, none⟩ = some (.int .i64 low) ∧ W.cell? ⟨w.heap.size, 1, none⟩ = some (.slice a n c) ∧ W.cell? ⟨g, 1, none⟩ = some (.int .i64 mm)) (first | exact ⟨d0, d1, e1⟩ | exact ⟨p0, p1, q1⟩) (first | (go_at_call 37; (refine (HR1.out _ (HB2.out.drew)).mono ?_); rintro e w3 ⟨rfl, hb2⟩; have hb3 : Below w2.heap.size w2 w3 := (Below.refl w2.heap.size w2).drew.trans hb2; have R3 := Lib.hid (R2.out.below hb3); have HB3 := Lib.hid (HB2.out.trans (hb3.mono HB2.out.size)); have p0 := R3.out.cell 0 rfl; have p1 := R3.out.cell 1 rfl; have q1 := (HB3.out.cell (World.block_lt_of_cell? _ _ HG1.out)).trans HG1.out; clear hb2 hb3))
    clear d0 d1 e0 e1 x3
    have x5 := W5.out
    have f0 := (HB3.out.cell (World.block_lt_of_cell? _ _ HG0.out)).trans HG0.out
    have x4 := W4.out
    go_wp2_with fail
    clear x5
    go_region_held3 (fun W => W.cell? ⟨w.heap.size, 0, none⟩ = some (.int .i64 low) ∧ W.cell? ⟨w.heap.size, 1, none⟩ = some (.slice a n c) ∧ W.cell? ⟨g, 0, none⟩ = some (.int .i64 nn)) (first | exact ⟨p0, p1, f0⟩ | exact ⟨r0, r1, f1⟩ | exact ⟨s0, s1, t1⟩) (first
      | (go_at_call 51; (refine (HH.out _).mono ?_); rintro e w4 ⟨rfl, hb2⟩; have hb3 : Below w3.heap.size w3 w4 := (Below.refl w3.heap.size w3).drew.trans hb2; have R4 := Lib.hid (R3.out.below hb3); have HB4 := Lib.hid (HB3.out.trans (hb3.mono HB3.out.size)); have r0 := R4.out.cell 0 rfl; have r1 := R4.out.cell 1 rfl; have f1 := (HB4.out.cell (World.block_lt_of_cell? _ _ HG0.out)).trans HG0.out; clear hb2 hb3)
      | (go_at_call 37; (refine (HR2.out _ HB4.out).mono ?_); rintro e w5 ⟨rfl, hb3⟩; have R5 := Lib.hid (R4.out.below hb3); have HB5 := Lib.hid (HB4.out.trans (hb3.mono HB4.out.size)); have s0 := R5.out.cell 0 rfl; have s1 := R5.out.cell 1 rfl; have t1 := (HB5.out.cell (World.block_lt_of_cell? _ _ HG0.out)).trans HG0.out; clear hb3))
    clear p0 p1 q1 f0 x4 r0 r1 f1 s0 s1 t1
    have x6 := W6.out
    go_wp2
    go_ret2
    exact ⟨by rw [HZ1.out, HZ2.out]; rfl, HB5.out⟩
#print axioms around_any
end Go.Proofs.YtbfaaphijgmabaaDoor
