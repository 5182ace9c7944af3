/-
  Merged: MyFns, MyAround.
-/
import Derived.Test.YtfoalaoanpbmeaaDoorGrp1
import Derived.Test.YtfoalaoanpbmeaaDoorRunes
import Derived.Deep.QuietTactic
import Derived.BigQuiet
import Derived.IntWalk
import Derived.Test.YtfoalaoanpbmeaaDoorGrp2
import Derived.Deep.RegionHeld3
namespace Go.Proofs.YtfoalaoanpbmeaaDoor
open Go.RowKit My

/-- A block of runes. -/
def RBlock (w : World) (a : Option Addr) : Prop := ∀ b off, a = some ⟨b, off, none⟩ → ∃ cs fr, w.heap[b]? = some (.cells cs 21 fr)
/-- A list that can be read, its numbers small. -/
structure Lst (w : World) (a : Option Addr) (n c : Nat) (l : List Int) : Prop where
  typed : RBlock w a
  runs : Runs w a n c l
  small : ∀ i, -1 ≤ l.getD i 0 ∧ l.getD i 0 ≤ 8192
  few : n ≤ 8193
theorem RBlock.lt {w : World} {a : Option Addr} (h : RBlock w a) {b off : Nat} (e : a = some ⟨b, off, none⟩) : b < w.heap.size := by
  obtain ⟨cs, fr, h1⟩ := h b off e
  rcases Nat.lt_or_ge b w.heap.size with h | h
  · exact h
  · rw [Array.getElem?_eq_none h] at h1; cases h1
theorem RBlock.below {w w' : World} {a : Option Addr} (h : RBlock w a) (hb : Below w.heap.size w w') : RBlock w' a := fun b off e => by
  obtain ⟨cs, fr, h1⟩ := h b off e
  exact ⟨cs, fr, (hb.block b (h.lt e)).trans h1⟩
theorem Lst.below {w w' : World} {a : Option Addr} {n c : Nat} {l : List Int} (h : Lst w a n c l) (hb : Below w.heap.size w w') : Lst w' a n c l := ⟨h.typed.below hb, h.runs.below hb, h.small, h.few⟩
def IntIs (z : Int) (w : World) (e : Ending) (w' : World) : Prop := e = .returned (.int .i64 z) ∧ Below w.heap.size w w'
def BoolIs (z : Bool) (w : World) (e : Ending) (w' : World) : Prop := e = .returned (.bool z) ∧ Below w.heap.size w w'
set_option maxRecDepth 100000 in
set_option maxHeartbeats 1000000 in
theorem at_any (low : Int) (a : Option Addr) (n c : Nat) (l : List Int) (p : Int) (w : World) (h : Lst w a n c l) :
    Calls Tryd.prog 96 #[.agg #[.int .i64 low, .slice a n c], .int .i64 p] w (IntIs (atF l p) w) := by
  have hl := h.runs.1
  by_cases h0 : p < 0
  · have hz := Lib.hid (atF_out (l := l) (p := p) (.inl h0))
    have h0b : decide (p < 0) = true := by simpa using h0
    clear hl h
    go_enter Tryd.func96, Tryd.ntmps96
    go_wp2
    go_ret
    exact ⟨by rw [hz.out]; rfl, (Below.refl _ _).alloc (Nat.le_refl _) _⟩
  · have h0b : decide (p < 0) = false := by simpa using h0
    by_cases h1 : (n : Int) ≤ p
    · have hz := Lib.hid (atF_out (l := l) (p := p) (.inr (by omega)))
      have h1b : decide ((n : Int) ≤ p) = true := by simpa using h1
      clear hl h
      go_enter Tryd.func96, Tryd.ntmps96
      go_wp2
      go_ret
      exact ⟨by rw [hz.out]; rfl, (Below.refl _ _).alloc (Nat.le_refl _) _⟩
    · obtain ⟨i, rfl⟩ : ∃ i : Nat, p = i := ⟨p.toNat, by omega⟩
      have hi : i < n := by omega
      have hz := Lib.hid (atF_in (l := l) (i := i) (by omega))
      have h1b : decide ((n : Int) ≤ (i : Int)) = false := by simpa using h1
      have hs := h.small i
      obtain ⟨b, off, rfl, hc⟩ : ∃ b off, a = some ⟨b, off, none⟩ ∧ ∀ j, j < n → w.cell? ⟨b, off + j, none⟩ = some (.int .i32 (l.getD j 0)) := by
        rcases h.runs.2.2.2 with h | h
        · omega
        · exact h
      have hci := hc i hi
      have hcw : (w.alloc (.cells #[.int .i64 low, .slice (some ⟨b, off, none⟩) n c] 132)).cell? ⟨b, off + i, none⟩ = some (.int .i32 (l.getD i 0)) := (((Below.refl _ w).alloc (Nat.le_refl _) _).cell (World.block_lt_of_cell? _ _ hci)).trans hci
      obtain ⟨v, hv⟩ : ∃ v, l.getD i 0 = v := ⟨_, rfl⟩
      rw [hv] at hcw hs hz
      have hw : IntKind.i64.wrap v = v := IntWalk.i64_in _ (by omega)
      clear hl h hc hci hv
      go_enter Tryd.func96, Tryd.ntmps96
      go_wp2
      go_ret
      exact ⟨by rw [hz.out]; rfl, (Below.refl _ _).alloc (Nat.le_refl _) _⟩
set_option maxRecDepth 100000 in
theorem high_any (low : Int) (a : Option Addr) (n c : Nat) (w : World) (hn : n ≤ 8193) (hlo : -8192 ≤ low) (hhi : low ≤ 8192) :
    Calls Tryd.prog 107 #[.agg #[.int .i64 low, .slice a n c]] w (IntIs (low + 2 * (n : Int) - 2) w) := by
  have hnI : (n : Int) ≤ 8193 := by omega
  have hn0 : (0 : Int) ≤ (n : Int) := by omega
  clear hn
  go_enter Tryd.func107, Tryd.ntmps107
  go_wp2
  go_ret
  exact ⟨rfl, (Below.refl _ _).alloc (Nat.le_refl _) _⟩
set_option maxRecDepth 100000 in
set_option maxHeartbeats 1000000 in
theorem reaches_any (low : Int) (a : Option Addr) (n c : Nat) (l : List Int) (x y : Int) (w : World) (h : Lst w a n c l) (hlo : -8192 ≤ low) (hhi : low ≤ 8192) (hx : -1 ≤ x) (hx2 : x ≤ 20000) (hy : -1 ≤ y) (hy2 : y ≤ 20000) :
    Calls Tryd.prog 78 #[.agg #[.int .i64 low, .slice a n c], .int .i64 x, .int .i64 y] w (BoolIs (reachF low l x y) w) := by
  by_cases h0 : 0 ≤ x - y - low
  · have h0b : decide (0 ≤ x - y - low) = true := by simpa using h0
    by_cases h2 : (x - y - low) % 2 = 0
    · have h2b : ((x - y - low) % 2 == 0) = true := by simpa using h2
      have HZ := Lib.hid (show reachF low l x y = decide (x ≤ atF l ((x - y - low) / 2)) by unfold reachF; rw [h0b, h2b]; rfl)
      have HA := Lib.hid (fun W (hb : Below w.heap.size w W) => at_any low a n c l ((x - y - low) / 2) W (h.below hb))
      clear h h2
      go_enter Tryd.func78, Tryd.ntmps78
      go_wp2_with (go_at_call 96; (with_reducible refine (HA.out _ ((Below.refl _ _).alloc (Nat.le_refl _) _)).mono ?_); rintro e w2 ⟨rfl, hb2⟩)
      go_ret
      exact ⟨by rw [HZ.out]; rfl, ((Below.refl _ _).alloc (Nat.le_refl _) _).trans (hb2.mono (by simp))⟩
    · have h2b : ((x - y - low) % 2 == 0) = false := by simpa using h2
      have HZ := Lib.hid (show reachF low l x y = false by unfold reachF; rw [h0b, h2b]; rfl)
      clear h h2
      go_enter Tryd.func78, Tryd.ntmps78
      go_wp2
      go_ret
      exact ⟨by rw [HZ.out]; rfl, (Below.refl _ _).alloc (Nat.le_refl _) _⟩
  · have h0b : decide (0 ≤ x - y - low) = false := by simpa using h0
    have HZ := Lib.hid (show reachF low l x y = false by unfold reachF; rw [h0b]; rfl)
    clear h
    go_enter Tryd.func78, Tryd.ntmps78
    go_wp2
    go_ret
    exact ⟨by rw [HZ.out]; rfl, (Below.refl _ _).alloc (Nat.le_refl _) _⟩
#print axioms reaches_any
end Go.Proofs.YtfoalaoanpbmeaaDoor

namespace Go.Proofs.YtfoalaoanpbmeaaDoor
open Go.RowKit My

theorem wl_maxI {P : Program} {w : World} {ops : Array Oper} {rest : List Oper} {o : Oper} {a : Act} {Q : Exit → Act → World → Prop} (hgd : o.guard = none) (x y : Operand) (ats : Array TypeId)
    (ho : o.op = .call { callee := .builtin .max, args := #[x, y], argTypes := ats }) (X Y Z : Int) (hx : a.eval x = .int .i64 X) (hy : a.eval y = .int .i64 Y) (hz : Z = if X < Y then Y else X)
    (h : wpList P ops Q rest (a.put o.dst (.int .i64 Z)) w) : wpList P ops Q (o :: rest) a w := by
  refine wpList_ok hgd (v := .int .i64 Z) ?_ h
  subst hz
  obtain ⟨dst, op, ty, pos, after, guard⟩ := o
  subst ho
  simp only [BigFrame.execOp_builtin, BigFrame.builtin_max]
  simp [hx, hy, Builtin.max_, Builtin.max2]
def TwoIs (x y : Int) (w : World) (e : Ending) (w' : World) : Prop := e = .returned (.tuple #[.int .i64 x, .int .i64 y]) ∧ Below w.heap.size w w'
abbrev lstC (low : Int) (a : Option Addr) (n c : Nat) : List Value := [.int .i64 low, .slice a n c]
theorem infoL : (Tryd.prog.info? 132).map (·.size) = some 2 := by kernel_rfl
set_option maxRecDepth 100000 in
set_option maxHeartbeats 2000000 in
theorem around_any (g : Nat) (nn mm : Nat) (low : Int) (a : Option Addr) (n c : Nat) (l : List Int) (w : World) (h : Lst w a n c l) (hlo : -8192 ≤ low) (hhi : low ≤ 8192) (hlm : -(mm : Int) ≤ low) (hln : low + 2 * (n : Int) - 2 ≤ nn) (hn0 : 1 ≤ n) (hmm : mm ≤ 4096) (hnn : nn ≤ 4096)
    (hg0 : w.cell? ⟨g, 0, none⟩ = some (.int .i64 nn)) (hg1 : w.cell? ⟨g, 1, none⟩ = some (.int .i64 mm)) :
    Calls Tryd.prog 95 #[.pointer (some ⟨g, 0, none⟩), .agg #[.int .i64 low, .slice a n c]] w (TwoIs (lowF mm low l) (highF nn low l) w) := by
  have HL := Lib.hid h
  have hlen := Lib.hid h.runs.1
  have hnI : (n : Int) ≤ 8193 := by have := h.few; omega
  have hnI0 : (1 : Int) ≤ (n : Int) := by omega
  have hmI : (mm : Int) ≤ 4096 := by omega
  have hnnI : (nn : Int) ≤ 4096 := by omega
  have hmI0 : (0 : Int) ≤ (mm : Int) := by omega
  have hnnI0 : (0 : Int) ≤ (nn : Int) := by omega
  have HH := Lib.hid (fun W => high_any low a n c W (by omega) hlo hhi)
  have HR1 := Lib.hid (fun W (hb : Below w.heap.size w W) => reaches_any low a n c l (mm + low) mm W (h.below hb) hlo hhi (by omega) (by omega) (by omega) (by omega))
  have HR2 := Lib.hid (fun W (hb : Below w.heap.size w W) => reaches_any low a n c l nn (nn - (low + 2 * n - 2)) W (h.below hb) hlo hhi (by omega) (by omega) (by omega) (by omega))
  obtain ⟨b1, hb1⟩ : ∃ b, reachF low l (mm + low) mm = b := ⟨_, rfl⟩
  obtain ⟨b2, hb2⟩ : ∃ b, reachF low l nn (nn - (low + 2 * n - 2)) = b := ⟨_, rfl⟩
  rw [hb1] at HR1
  rw [hb2] at HR2
  have HZ1 := Lib.hid (show lowF mm low l = if b1 = true then low - 1 + 2 else low - 1 by unfold lowF; rw [hb1]; split <;> omega)
  have HZ2 := Lib.hid (show highF nn low l = if b2 = true then low + 2 * n - 2 + 1 - 2 else low + 2 * n - 2 + 1 by unfold highF; rw [hlen.out, hb2]; split <;> omega)
  have HG0 := Lib.hid hg0
  have HG1 := Lib.hid hg1
  clear h hb1 hb2 hlm hmm hnn hg0 hg1
  have W1 := Lib.hid (IntWalk.i64_in (low - 1) (by omega))
  have W2 := Lib.hid (IntWalk.i64_in (low + 2 * (n : Int) - 2 + 1) (by omega))
  have W3 := Lib.hid (IntWalk.i64_in ((mm : Int) + low) (by omega))
  have W4 := Lib.hid (IntWalk.i64_in ((nn : Int) - (low + 2 * (n : Int) - 2)) (by omega))
  have W5 := Lib.hid (IntWalk.i64_in (low - 1 + 2) (by omega))
  have W6 := Lib.hid (IntWalk.i64_in (low + 2 * (n : Int) - 2 + 1 - 2) (by omega))
  clear hmI hnnI hmI0 hnnI0 hnI hnI0 hlo hhi hln hn0
  cases b1 <;> cases b2
  all_goals
    go_enter Tryd.func95, Tryd.ntmps95
    go_wp2_with (refine box_row rfl 132 (.tmp 1) (lstC low a n c) rfl rfl ?_; intro w1 hr1 hb1 hs1; have HB1 := Lib.hid hb1; have R1 := Lib.hid hr1; clear hr1 hb1 hs1)
    have c0 := R1.out.cell 0 rfl
    have c1 := R1.out.cell 1 rfl
    have x1 := W1.out
    have x2 := W2.out
    go_region_held3 (fun W => W.cell? ⟨w.heap.size, 0, none⟩ = some (.int .i64 low) ∧ W.cell? ⟨w.heap.size, 1, none⟩ = some (.slice a n c)) (first | exact ⟨c0, c1⟩ | exact ⟨d0, d1⟩) (first | (go_at_call 107; (refine (HH.out _).mono ?_); rintro e w2 ⟨rfl, hb2⟩; have hb3 : Below w1.heap.size w1 w2 := (Below.refl w1.heap.size w1).drew.trans hb2; have R2 := Lib.hid (R1.out.below hb3); have HB2 := Lib.hid (HB1.out.trans (hb3.mono HB1.out.size)); have d0 := R2.out.cell 0 rfl; have d1 := R2.out.cell 1 rfl; clear hb2 hb3))
    clear c0 c1 x1 x2
    have e0 := (HB2.out.cell (World.block_lt_of_cell? _ _ HG0.out)).trans HG0.out
    have e1 := (HB2.out.cell (World.block_lt_of_cell? _ _ HG1.out)).trans HG1.out
    have x3 := W3.out
    go_wp2_with fail
    go_region_held3 (fun W => W.cell? ⟨w.heap.size, 0, none⟩ = some (.int .i64 low) ∧ W.cell? ⟨w.heap.size, 1, none⟩ = some (.slice a n c) ∧ W.cell? ⟨g, 1, none⟩ = some (.int .i64 mm)) (first | exact ⟨d0, d1, e1⟩ | exact ⟨p0, p1, q1⟩) (first | (go_at_call 78; (refine (HR1.out _ (HB2.out.drew)).mono ?_); rintro e w3 ⟨rfl, hb2⟩; have hb3 : Below w2.heap.size w2 w3 := (Below.refl w2.heap.size w2).drew.trans hb2; have R3 := Lib.hid (R2.out.below hb3); have HB3 := Lib.hid (HB2.out.trans (hb3.mono HB2.out.size)); have p0 := R3.out.cell 0 rfl; have p1 := R3.out.cell 1 rfl; have q1 := (HB3.out.cell (World.block_lt_of_cell? _ _ HG1.out)).trans HG1.out; clear hb2 hb3))
    clear d0 d1 e0 e1 x3
    have x5 := W5.out
    have f0 := (HB3.out.cell (World.block_lt_of_cell? _ _ HG0.out)).trans HG0.out
    have x4 := W4.out
    go_wp2_with fail
    clear x5
    go_region_held3 (fun W => W.cell? ⟨w.heap.size, 0, none⟩ = some (.int .i64 low) ∧ W.cell? ⟨w.heap.size, 1, none⟩ = some (.slice a n c) ∧ W.cell? ⟨g, 0, none⟩ = some (.int .i64 nn)) (first | exact ⟨p0, p1, f0⟩ | exact ⟨r0, r1, f1⟩ | exact ⟨s0, s1, t1⟩) (first
      | (go_at_call 107; (refine (HH.out _).mono ?_); rintro e w4 ⟨rfl, hb2⟩; have hb3 : Below w3.heap.size w3 w4 := (Below.refl w3.heap.size w3).drew.trans hb2; have R4 := Lib.hid (R3.out.below hb3); have HB4 := Lib.hid (HB3.out.trans (hb3.mono HB3.out.size)); have r0 := R4.out.cell 0 rfl; have r1 := R4.out.cell 1 rfl; have f1 := (HB4.out.cell (World.block_lt_of_cell? _ _ HG0.out)).trans HG0.out; clear hb2 hb3)
      | (go_at_call 78; (refine (HR2.out _ HB4.out).mono ?_); rintro e w5 ⟨rfl, hb3⟩; have R5 := Lib.hid (R4.out.below hb3); have HB5 := Lib.hid (HB4.out.trans (hb3.mono HB4.out.size)); have s0 := R5.out.cell 0 rfl; have s1 := R5.out.cell 1 rfl; have t1 := (HB5.out.cell (World.block_lt_of_cell? _ _ HG0.out)).trans HG0.out; clear hb3))
    clear p0 p1 q1 f0 x4 r0 r1 f1 s0 s1 t1
    have x6 := W6.out
    go_wp2
    go_ret2
    exact ⟨by rw [HZ1.out, HZ2.out]; rfl, HB5.out⟩
#print axioms around_any
end Go.Proofs.YtfoalaoanpbmeaaDoor
