/-
  Merged: MyFns, MyAround, MyNearW, MyTry.
-/
import Derived.Test.YtfoalaoanpbmeaaDoorGrp2
import Derived.Test.YtfoalaoanpbmeaaDoorRunes
import Derived.Deep.QuietTactic
import Derived.BigQuiet
import Derived.IntWalk
import Derived.Test.YtfoalaoanpbmeaaDoorGrp3
import Derived.Deep.RegionHeld3
import Derived.StillTailTactics
import Derived.Deep.LoopGhost
namespace Go.Proofs.YtfoalaoanpbmeaaDoor
open Go.RowKit My

/-- A block of runes. -/
def RBlock (w : World) (a : Option Addr) : Prop := ∀ b off, a = some ⟨b, off, none⟩ → ∃ cs fr, w.heap[b]? = some (.cells cs 21 fr)
/-- A list that can be read, its numbers small. -/
structure Lst (w : World) (a : Option Addr) (n c : Nat) (l : List Int) : Prop where
  typed : RBlock w a
  runs : Runs w a n c l
  small : ∀ i, -1 ≤ l.getD i 0 ∧ l.getD i 0 ≤ 8192
  few : n ≤ 8193
theorem RBlock.lt {w : World} {a : Option Addr} (h : RBlock w a) {b off : Nat} (e : a = some ⟨b, off, none⟩) : b < w.heap.size := by
  obtain ⟨cs, fr, h1⟩ := h b off e
  rcases Nat.lt_or_ge b w.heap.size with h | h
  · exact h
  · rw [Array.getElem?_eq_none h] at h1; cases h1
theorem RBlock.below {w w' : World} {a : Option Addr} (h : RBlock w a) (hb : Below w.heap.size w w') : RBlock w' a := fun b off e => by
  obtain ⟨cs, fr, h1⟩ := h b off e
  exact ⟨cs, fr, (hb.block b (h.lt e)).trans h1⟩
theorem Lst.below {w w' : World} {a : Option Addr} {n c : Nat} {l : List Int} (h : Lst w a n c l) (hb : Below w.heap.size w w') : Lst w' a n c l := ⟨h.typed.below hb, h.runs.below hb, h.small, h.few⟩
def IntIs (z : Int) (w : World) (e : Ending) (w' : World) : Prop := e = .returned (.int .i64 z) ∧ Below w.heap.size w w'
def BoolIs (z : Bool) (w : World) (e : Ending) (w' : World) : Prop := e = .returned (.bool z) ∧ Below w.heap.size w w'
set_option maxRecDepth 100000 in
set_option maxHeartbeats 1000000 in
theorem at_any (low : Int) (a : Option Addr) (n c : Nat) (l : List Int) (p : Int) (w : World) (h : Lst w a n c l) :
    Calls Tryd.prog 96 #[.agg #[.int .i64 low, .slice a n c], .int .i64 p] w (IntIs (atF l p) w) := by
  have hl := h.runs.1
  by_cases h0 : p < 0
  · have hz := Lib.hid (atF_out (l := l) (p := p) (.inl h0))
    have h0b : decide (p < 0) = true := by simpa using h0
    clear hl h
    go_enter Tryd.func96, Tryd.ntmps96
    go_wp2
    go_ret
    exact ⟨by rw [hz.out]; rfl, (Below.refl _ _).alloc (Nat.le_refl _) _⟩
  · have h0b : decide (p < 0) = false := by simpa using h0
    by_cases h1 : (n : Int) ≤ p
    · have hz := Lib.hid (atF_out (l := l) (p := p) (.inr (by omega)))
      have h1b : decide ((n : Int) ≤ p) = true := by simpa using h1
      clear hl h
      go_enter Tryd.func96, Tryd.ntmps96
      go_wp2
      go_ret
      exact ⟨by rw [hz.out]; rfl, (Below.refl _ _).alloc (Nat.le_refl _) _⟩
    · obtain ⟨i, rfl⟩ : ∃ i : Nat, p = i := ⟨p.toNat, by omega⟩
      have hi : i < n := by omega
      have hz := Lib.hid (atF_in (l := l) (i := i) (by omega))
      have h1b : decide ((n : Int) ≤ (i : Int)) = false := by simpa using h1
      have hs := h.small i
      obtain ⟨b, off, rfl, hc⟩ : ∃ b off, a = some ⟨b, off, none⟩ ∧ ∀ j, j < n → w.cell? ⟨b, off + j, none⟩ = some (.int .i32 (l.getD j 0)) := by
        rcases h.runs.2.2.2 with h | h
        · omega
        · exact h
      have hci := hc i hi
      have hcw : (w.alloc (.cells #[.int .i64 low, .slice (some ⟨b, off, none⟩) n c] 132)).cell? ⟨b, off + i, none⟩ = some (.int .i32 (l.getD i 0)) := (((Below.refl _ w).alloc (Nat.le_refl _) _).cell (World.block_lt_of_cell? _ _ hci)).trans hci
      obtain ⟨v, hv⟩ : ∃ v, l.getD i 0 = v := ⟨_, rfl⟩
      rw [hv] at hcw hs hz
      have hw : IntKind.i64.wrap v = v := IntWalk.i64_in _ (by omega)
      clear hl h hc hci hv
      go_enter Tryd.func96, Tryd.ntmps96
      go_wp2
      go_ret
      exact ⟨by rw [hz.out]; rfl, (Below.refl _ _).alloc (Nat.le_refl _) _⟩
set_option maxRecDepth 100000 in
theorem high_any (low : Int) (a : Option Addr) (n c : Nat) (w : World) (hn : n ≤ 8193) (hlo : -8192 ≤ low) (hhi : low ≤ 8192) :
    Calls Tryd.prog 107 #[.agg #[.int .i64 low, .slice a n c]] w (IntIs (low + 2 * (n : Int) - 2) w) := by
  have hnI : (n : Int) ≤ 8193 := by omega
  have hn0 : (0 : Int) ≤ (n : Int) := by omega
  clear hn
  go_enter Tryd.func107, Tryd.ntmps107
  go_wp2
  go_ret
  exact ⟨rfl, (Below.refl _ _).alloc (Nat.le_refl _) _⟩
set_option maxRecDepth 100000 in
set_option maxHeartbeats 1000000 in
theorem reaches_any (low : Int) (a : Option Addr) (n c : Nat) (l : List Int) (x y : Int) (w : World) (h : Lst w a n c l) (hlo : -8192 ≤ low) (hhi : low ≤ 8192) (hx : -1 ≤ x) (hx2 : x ≤ 20000) (hy : -1 ≤ y) (hy2 : y ≤ 20000) :
    Calls Tryd.prog 78 #[.agg #[.int .i64 low, .slice a n c], .int .i64 x, .int .i64 y] w (BoolIs (reachF low l x y) w) := by
  by_cases h0 : 0 ≤ x - y - low
  · have h0b : decide (0 ≤ x - y - low) = true := by simpa using h0
    by_cases h2 : (x - y - low) % 2 = 0
    · have h2b : ((x - y - low) % 2 == 0) = true := by simpa using h2
      have HZ := Lib.hid (show reachF low l x y = decide (x ≤ atF l ((x - y - low) / 2)) by unfold reachF; rw [h0b, h2b]; rfl)
      have HA := Lib.hid (fun W (hb : Below w.heap.size w W) => at_any low a n c l ((x - y - low) / 2) W (h.below hb))
      clear h h2
      go_enter Tryd.func78, Tryd.ntmps78
      go_wp2_with (go_at_call 96; (with_reducible refine (HA.out _ ((Below.refl _ _).alloc (Nat.le_refl _) _)).mono ?_); rintro e w2 ⟨rfl, hb2⟩)
      go_ret
      exact ⟨by rw [HZ.out]; rfl, ((Below.refl _ _).alloc (Nat.le_refl _) _).trans (hb2.mono (by simp))⟩
    · have h2b : ((x - y - low) % 2 == 0) = false := by simpa using h2
      have HZ := Lib.hid (show reachF low l x y = false by unfold reachF; rw [h0b, h2b]; rfl)
      clear h h2
      go_enter Tryd.func78, Tryd.ntmps78
      go_wp2
      go_ret
      exact ⟨by rw [HZ.out]; rfl, (Below.refl _ _).alloc (Nat.le_refl _) _⟩
  · have h0b : decide (0 ≤ x - y - low) = false := by simpa using h0
    have HZ := Lib.hid (show reachF low l x y = false by unfold reachF; rw [h0b]; rfl)
    clear h
    go_enter Tryd.func78, Tryd.ntmps78
    go_wp2
    go_ret
    exact ⟨by rw [HZ.out]; rfl, (Below.refl _ _).alloc (Nat.le_refl _) _⟩
#print axioms reaches_any
end Go.Proofs.YtfoalaoanpbmeaaDoor

namespace Go.Proofs.YtfoalaoanpbmeaaDoor
open Go.RowKit My

theorem wl_maxI {P : Program} {w : World} {ops : Array Oper} {rest : List Oper} {o : Oper} {a : Act} {Q : Exit → Act → World → Prop} (hgd : o.guard = none) (x y : Operand) (ats : Array TypeId)
    (ho : o.op = .call { callee := .builtin .max, args := #[x, y], argTypes := ats }) (X Y Z : Int) (hx : a.eval x = .int .i64 X) (hy : a.eval y = .int .i64 Y) (hz : Z = if X < Y then Y else X)
    (h : wpList P ops Q rest (a.put o.dst (.int .i64 Z)) w) : wpList P ops Q (o :: rest) a w := by
  refine wpList_ok hgd (v := .int .i64 Z) ?_ h
  subst hz
  obtain ⟨dst, op, ty, pos, after, guard⟩ := o
  subst ho
  simp only [BigFrame.execOp_builtin, BigFrame.builtin_max]
  simp [hx, hy, Builtin.max_, Builtin.max2]
def TwoIs (x y : Int) (w : World) (e : Ending) (w' : World) : Prop := e = .returned (.tuple #[.int .i64 x, .int .i64 y]) ∧ Below w.heap.size w w'
abbrev lstC (low : Int) (a : Option Addr) (n c : Nat) : List Value := [.int .i64 low, .slice a n c]
theorem infoL : (Tryd.prog.info? 132).map (·.size) = some 2 := by kernel_rfl
set_option maxRecDepth 100000 in
set_option maxHeartbeats 2000000 in
theorem around_any (g : Nat) (nn mm : Nat) (low : Int) (a : Option Addr) (n c : Nat) (l : List Int) (w : World) (h : Lst w a n c l) (hlo : -8192 ≤ low) (hhi : low ≤ 8192) (hlm : -(mm : Int) ≤ low) (hln : low + 2 * (n : Int) - 2 ≤ nn) (hn0 : 1 ≤ n) (hmm : mm ≤ 4096) (hnn : nn ≤ 4096)
    (hg0 : w.cell? ⟨g, 0, none⟩ = some (.int .i64 nn)) (hg1 : w.cell? ⟨g, 1, none⟩ = some (.int .i64 mm)) :
    Calls Tryd.prog 95 #[.pointer (some ⟨g, 0, none⟩), .agg #[.int .i64 low, .slice a n c]] w (TwoIs (lowF mm low l) (highF nn low l) w) := by
  have HL := Lib.hid h
  have hlen := Lib.hid h.runs.1
  have hnI : (n : Int) ≤ 8193 := by have := h.few; omega
  have hnI0 : (1 : Int) ≤ (n : Int) := by omega
  have hmI : (mm : Int) ≤ 4096 := by omega
  have hnnI : (nn : Int) ≤ 4096 := by omega
  have hmI0 : (0 : Int) ≤ (mm : Int) := by omega
  have hnnI0 : (0 : Int) ≤ (nn : Int) := by omega
  have HH := Lib.hid (fun W => high_any low a n c W (by omega) hlo hhi)
  have HR1 := Lib.hid (fun W (hb : Below w.heap.size w W) => reaches_any low a n c l (mm + low) mm W (h.below hb) hlo hhi (by omega) (by omega) (by omega) (by omega))
  have HR2 := Lib.hid (fun W (hb : Below w.heap.size w W) => reaches_any low a n c l nn (nn - (low + 2 * n - 2)) W (h.below hb) hlo hhi (by omega) (by omega) (by omega) (by omega))
  obtain ⟨b1, hb1⟩ : ∃ b, reachF low l (mm + low) mm = b := ⟨_, rfl⟩
  obtain ⟨b2, hb2⟩ : ∃ b, reachF low l nn (nn - (low + 2 * n - 2)) = b := ⟨_, rfl⟩
  rw [hb1] at HR1
  rw [hb2] at HR2
  have HZ1 := Lib.hid (show lowF mm low l = if b1 = true then low - 1 + 2 else low - 1 by unfold lowF; rw [hb1]; split <;> omega)
  have HZ2 := Lib.hid (show highF nn low l = if b2 = true then low + 2 * n - 2 + 1 - 2 else low + 2 * n - 2 + 1 by unfold highF; rw [hlen.out, hb2]; split <;> omega)
  have HG0 := Lib.hid hg0
  have HG1 := Lib.hid hg1
  clear h hb1 hb2 hlm hmm hnn hg0 hg1
  have W1 := Lib.hid (IntWalk.i64_in (low - 1) (by omega))
  have W2 := Lib.hid (IntWalk.i64_in (low + 2 * (n : Int) - 2 + 1) (by omega))
  have W3 := Lib.hid (IntWalk.i64_in ((mm : Int) + low) (by omega))
  have W4 := Lib.hid (IntWalk.i64_in ((nn : Int) - (low + 2 * (n : Int) - 2)) (by omega))
  have W5 := Lib.hid (IntWalk.i64_in (low - 1 + 2) (by omega))
  have W6 := Lib.hid (IntWalk.i64_in (low + 2 * (n : Int) - 2 + 1 - 2) (by omega))
  clear hmI hnnI hmI0 hnnI0 hnI hnI0 hlo hhi hln hn0
  cases b1 <;> cases b2
  all_goals
    go_enter Tryd.func95, Tryd.ntmps95
    go_wp2_with (refine box_row rfl 132 (.tmp 1) (lstC low a n c) rfl rfl ?_; intro w1 hr1 hb1 hs1; have HB1 := Lib.hid hb1; have R1 := Lib.hid hr1; clear hr1 hb1 hs1)
    have c0 := R1.out.cell 0 rfl
    have c1 := R1.out.cell 1 rfl
    have x1 := W1.out
    have x2 := W2.out
    go_region_held3 (fun W => W.cell? ⟨w.heap.size, 0, none⟩ = some (.int .i64 low) ∧ W.cell? ⟨w.heap.size, 1, none⟩ = some (.slice a n c)) (first | exact ⟨c0, c1⟩ | exact ⟨d0, d1⟩) (first | (go_at_call 107; (refine (HH.out _).mono ?_); rintro e w2 ⟨rfl, hb2⟩; have hb3 : Below w1.heap.size w1 w2 := (Below.refl w1.heap.size w1).drew.trans hb2; have R2 := Lib.hid (R1.out.below hb3); have HB2 := Lib.hid (HB1.out.trans (hb3.mono HB1.out.size)); have d0 := R2.out.cell 0 rfl; have d1 := R2.out.cell 1 rfl; clear hb2 hb3))
    clear c0 c1 x1 x2
    have e0 := (HB2.out.cell (World.block_lt_of_cell? _ _ HG0.out)).trans HG0.out
    have e1 := (HB2.out.cell (World.block_lt_of_cell? _ _ HG1.out)).trans HG1.out
    have x3 := W3.out
    go_wp2_with fail
    go_region_held3 (fun W => W.cell? ⟨w.heap.size, 0, none⟩ = some (.int .i64 low) ∧ W.cell? ⟨w.heap.size, 1, none⟩ = some (.slice a n c) ∧ W.cell? ⟨g, 1, none⟩ = some (.int .i64 mm)) (first | exact ⟨d0, d1, e1⟩ | exact ⟨p0, p1, q1⟩) (first | (go_at_call 78; (refine (HR1.out _ (HB2.out.drew)).mono ?_); rintro e w3 ⟨rfl, hb2⟩; have hb3 : Below w2.heap.size w2 w3 := (Below.refl w2.heap.size w2).drew.trans hb2; have R3 := Lib.hid (R2.out.below hb3); have HB3 := Lib.hid (HB2.out.trans (hb3.mono HB2.out.size)); have p0 := R3.out.cell 0 rfl; have p1 := R3.out.cell 1 rfl; have q1 := (HB3.out.cell (World.block_lt_of_cell? _ _ HG1.out)).trans HG1.out; clear hb2 hb3))
    clear d0 d1 e0 e1 x3
    have x5 := W5.out
    have f0 := (HB3.out.cell (World.block_lt_of_cell? _ _ HG0.out)).trans HG0.out
    have x4 := W4.out
    go_wp2_with fail
    clear x5
    go_region_held3 (fun W => W.cell? ⟨w.heap.size, 0, none⟩ = some (.int .i64 low) ∧ W.cell? ⟨w.heap.size, 1, none⟩ = some (.slice a n c) ∧ W.cell? ⟨g, 0, none⟩ = some (.int .i64 nn)) (first | exact ⟨p0, p1, f0⟩ | exact ⟨r0, r1, f1⟩ | exact ⟨s0, s1, t1⟩) (first
      | (go_at_call 107; (refine (HH.out _).mono ?_); rintro e w4 ⟨rfl, hb2⟩; have hb3 : Below w3.heap.size w3 w4 := (Below.refl w3.heap.size w3).drew.trans hb2; have R4 := Lib.hid (R3.out.below hb3); have HB4 := Lib.hid (HB3.out.trans (hb3.mono HB3.out.size)); have r0 := R4.out.cell 0 rfl; have r1 := R4.out.cell 1 rfl; have f1 := (HB4.out.cell (World.block_lt_of_cell? _ _ HG0.out)).trans HG0.out; clear hb2 hb3)
      | (go_at_call 78; (refine (HR2.out _ HB4.out).mono ?_); rintro e w5 ⟨rfl, hb3⟩; have R5 := Lib.hid (R4.out.below hb3); have HB5 := Lib.hid (HB4.out.trans (hb3.mono HB4.out.size)); have s0 := R5.out.cell 0 rfl; have s1 := R5.out.cell 1 rfl; have t1 := (HB5.out.cell (World.block_lt_of_cell? _ _ HG0.out)).trans HG0.out; clear hb3))
    clear p0 p1 q1 f0 x4 r0 r1 f1 s0 s1 t1
    have x6 := W6.out
    go_wp2
    go_ret2
    exact ⟨by rw [HZ1.out, HZ2.out]; rfl, HB5.out⟩
#print axioms around_any
end Go.Proofs.YtfoalaoanpbmeaaDoor

namespace Go.Proofs.YtfoalaoanpbmeaaDoor
open Go.RowKit My

theorem lstC_one (low : Int) (a : Option Addr) (n c : Nat) : ∀ v ∈ lstC low a n c, v.oneCell' = true := fun v hv => by
  simp only [List.mem_cons, List.not_mem_nil, or_false] at hv
  rcases hv with rfl | rfl <;> rfl
/-- A list handed back. -/
def LstIs (w : World) (low : Int) (l : List Int) (e : Ending) (w' : World) : Prop := ∃ a n c, e = .returned (.agg #[.int .i64 low, .slice a n c]) ∧ Lst w' a n c l ∧ Below w.heap.size w w'
theorem near_small {l : List Int} (h : ∀ i, -1 ≤ l.getD i 0 ∧ l.getD i 0 ≤ 8192) (low cc : Int) : ∀ i, -1 ≤ (nearL low l cc).getD i 0 ∧ (nearL low l cc).getD i 0 ≤ 8192 := by
  intro i
  by_cases hi : i < (nearL low l cc).length
  · have hi2 := hi
    unfold nearL at hi ⊢
    rw [List.length_take, List.length_drop] at hi
    simp only [List.getD_eq_getElem?_getD]
    rw [List.getElem?_take_of_lt (by omega), List.getElem?_drop]
    have := h ((nearA low cc).toNat + i)
    rwa [List.getD_eq_getElem?_getD] at this
  · rw [List.getD_eq_getElem?_getD, List.getElem?_eq_none (by omega)]
    exact ⟨by decide, by decide⟩
theorem Lst.near {w : World} {b off n c : Nat} {l : List Int} (h : Lst w (some ⟨b, off, none⟩) n c l) (low cc : Int) (A Z : Nat) (hA : nearA low cc = (A : Int)) (hZ : nearZ low l cc = (Z : Int)) (hr : A + Z + 1 ≤ n) (k : Nat) (hk : k = n - Z - A) (c' : Nat) (hc : k ≤ c') (hc2 : c' ≤ c) :
    Lst w (some ⟨b, off + A, none⟩) k c' (nearL low l cc) := by
  obtain ⟨h1, h2, h3, h4⟩ := h.runs
  have hlen : (nearL low l cc).length = k := by unfold nearL; rw [List.length_take, List.length_drop, hA, hZ, h1]; simp; omega
  refine ⟨fun b' off' e => ?_, ⟨hlen, hc, by omega, .inr ⟨b, off + A, rfl, fun j hj => ?_⟩⟩, near_small h.small low cc, by have := h.few; omega⟩
  · simp only [Option.some.injEq, Addr.mk.injEq, and_true] at e
    obtain ⟨rfl, _⟩ := e
    exact h.typed _ _ rfl
  rcases h4 with ⟨h4, _⟩ | ⟨b', off', ha, h4⟩
  · omega
  · simp only [Option.some.injEq, Addr.mk.injEq, and_true] at ha
    obtain ⟨rfl, rfl⟩ := ha
    have := h4 (A + j) (by omega)
    rw [← Nat.add_assoc] at this
    rw [this]
    have e : (nearL low l cc).getD j 0 = l.getD (A + j) 0 := by
      unfold nearL
      simp only [List.getD_eq_getElem?_getD]
      rw [List.getElem?_take_of_lt (by rw [hA, hZ, h1]; simp; omega), List.getElem?_drop, hA]; rfl
    rw [e]
set_option maxRecDepth 100000 in
set_option maxHeartbeats 2000000 in
theorem near_any (low cc : Int) (a : Option Addr) (n c : Nat) (l : List Int) (w : World) (h : Lst w a n c l) (hlo : -8192 ≤ low) (hhi : low ≤ 8192) (hc0 : -8192 ≤ cc) (hc1 : cc ≤ 8192) (hA0 : 0 ≤ nearA low cc) (hZ0 : 0 ≤ nearZ low l cc) (hr : nearA low cc + nearZ low l cc + 1 ≤ l.length) :
    Calls Tryd.prog 97 #[.agg #[.int .i64 low, .slice a n c], .int .i64 cc, .int .i64 64] w (LstIs w (low + 2 * nearA low cc) (nearL low l cc)) := by
  obtain ⟨A, hA⟩ : ∃ A : Nat, nearA low cc = A := ⟨(nearA low cc).toNat, by omega⟩
  obtain ⟨Z, hZ⟩ : ∃ Z : Nat, nearZ low l cc = Z := ⟨(nearZ low l cc).toNat, by omega⟩
  have hlen := h.runs.1
  have hfew := h.few
  obtain ⟨b, off, rfl⟩ : ∃ b off, a = some ⟨b, off, none⟩ := by
    rcases h.runs.2.2.2 with ⟨h0, _⟩ | ⟨b, off, ha, _⟩
    · omega
    · exact ⟨b, off, ha⟩
  have hnc := h.runs.2.1
  have hcc := h.runs.2.2.1
  have HL := Lib.hid h
  have HA := Lib.hid hA
  have HZ := Lib.hid hZ
  have HR := Lib.hid (show A + Z + 1 ≤ n by omega)
  have HH := Lib.hid (fun W => high_any low (some ⟨b, off, none⟩) n c W (by omega) hlo hhi)
  have EA := Lib.hid (show (if 0 < cc - 64 - low + 1 then cc - 64 - low + 1 else 0) / 2 = (A : Int) by rw [← hA]; unfold nearA; split <;> omega)
  have EZ := Lib.hid (show (if 0 < low + 2 * (n : Int) - 2 - cc - 64 + 1 then low + 2 * (n : Int) - 2 - cc - 64 + 1 else 0) / 2 = (Z : Int) by rw [← hZ]; unfold nearZ; rw [hlen]; split <;> omega)
  obtain ⟨ma, hma⟩ : ∃ m, (if 0 < cc - 64 - low + 1 then cc - 64 - low + 1 else 0) = m := ⟨_, rfl⟩
  obtain ⟨mz, hmz⟩ : ∃ m, (if 0 < low + 2 * (n : Int) - 2 - cc - 64 + 1 then low + 2 * (n : Int) - 2 - cc - 64 + 1 else 0) = m := ⟨_, rfl⟩
  rw [hma] at EA
  rw [hmz] at EZ
  have HMA := Lib.hid hma.symm
  have HMZ := Lib.hid hmz.symm
  have bma : 0 ≤ ma ∧ ma ≤ 40000 := by rw [← hma]; split <;> omega
  have bmz : 0 ≤ mz ∧ mz ≤ 40000 := by rw [← hmz]; split <;> omega
  obtain ⟨bma0, bma1⟩ := bma
  obtain ⟨bmz0, bmz1⟩ := bmz
  have hnI : (n : Int) ≤ 8193 := by omega
  have hcA : ¬ c = A := by omega
  have hcA' : ¬ A = c := by omega
  have hAn : (A : Int) ≤ 8192 := by omega
  have hZn : (Z : Int) ≤ 8192 := by omega
  have W1 := Lib.hid (IntWalk.i64_in (2 * (A : Int)) (by omega))
  have W2 := Lib.hid (IntWalk.i64_in (low + 2 * (A : Int)) (by omega))
  have HS := Lib.hid (show (n : Int) - Z = ((n - Z : Nat) : Int) by omega)
  obtain ⟨E1, hE1⟩ : ∃ E1, n - Z = E1 := ⟨_, rfl⟩
  rw [hE1] at HS
  have W3 := Lib.hid (IntWalk.i64_in ((E1 : Nat) : Int) (by omega))
  have hE2 : E1 ≤ c := by omega
  have hE3 : A ≤ E1 := by omega
  have HE := Lib.hid hE1
  clear h hA0 hZ0 hr hA hZ hma hmz hnc hcc hlen hfew hE1
  go_enter Tryd.func97, Tryd.ntmps97
  go_wp2_with (first
    | (refine box_row rfl 132 (.tmp 0) (lstC low (some ⟨b, off, none⟩) n c) rfl rfl ?_; intro w1 hr1 hb1 hs1; have HB1 := Lib.hid hb1; have R1 := Lib.hid hr1; have c0 := R1.out.cell 0 rfl; have c1 := R1.out.cell 1 rfl; clear hr1 hb1 hs1)
    | (refine alloc_row rfl 132 (lstC 0 none 0 0) rfl (by intro w; kernel_rfl) ?_; intro w2 hr2 hb2 hs2; have HB2 := Lib.hid (HB1.out.trans (hb2.mono HB1.out.size)); have R2 := Lib.hid (R1.out.below hb2); have Q2 := Lib.hid hr2; clear c0 c1; have c0 := R2.out.cell 0 rfl; have c1 := R2.out.cell 1 rfl; clear hr2 hb2)
    | ((with_reducible show wpList _ _ _ (⟨some 16, _, _, _, _, _⟩ :: _) _ _); refine wl_maxI rfl _ _ _ rfl 0 (cc - 64 - low + 1) ma rfl rfl HMA.out ?_; have y1 := EA.out)
    | (go_at_call 107; (with_reducible refine (HH.out _).mono ?_); rintro e w3 ⟨rfl, hb2⟩; clear y1)
    | ((with_reducible show wpList _ _ _ (⟨some 25, _, _, _, _, _⟩ :: _) _ _); refine wl_maxI rfl _ _ _ rfl 0 (low + 2 * (n : Int) - 2 - cc - 64 + 1) mz rfl rfl HMZ.out ?_; have y2 := EZ.out))
  have hb3 := hb2
  have HB3 := Lib.hid (HB2.out.trans (hb3.mono HB2.out.size))
  have R3 := Lib.hid (R2.out.below hb3)
  have Q3 := Lib.hid (Q2.out.below hb3)
  have d0 := R3.out.cell 0 rfl
  have d1 := R3.out.cell 1 rfl
  clear c0 c1 hb2 hb3
  have x1 := W1.out
  have x2 := W2.out
  have x3 := W3.out
  have x4 := HS.out
  rw [EA.out]
  go_still_tail 15, (by kernel_rfl)
  change wpList _ _ _ _ _ w3.drew
  go_wp2_with (refine store_row rfl 132 _ _ rfl w1.heap.size _ (lstC 0 none 0 0) (lstC (low + 2 * (A : Int)) (some ⟨b, off + A, none⟩) (E1 - A) (c - A)) rfl rfl Q3.out rfl infoL (lstC_one _ _ _ _) ?_; intro w4 hr4 hg4 _)
  have HB4 := Lib.hid (HB3.out.drew.grown hg4 HB3.out.size (fun k hk => by cases hk; exact HB1.out.size))
  exact bodyPost_ret (results_row rfl _ _ w1.heap.size _ _ _ rfl hr4 Tryd.underlying132 rfl infoL) rfl ⟨_, _, _, by rw [HA.out], (HL.out.below HB4.out).near low cc A Z HA.out HZ.out HR.out _ (by have := HE.out; have := HR.out; omega) _ (by have := HE.out; omega) (by omega), HB4.out⟩
#print axioms near_any
end Go.Proofs.YtfoalaoanpbmeaaDoor

namespace Go.Proofs.YtfoalaoanpbmeaaDoor
open Go.RowKit My

/-- What the closures have caught: two rows and their lengths, each in a box. -/
structure Caught (w : World) (pn pm pa pb : Nat) (A B : List Int) (aa ab : Option Addr) (ca cb : Nat) : Prop where
  n : w.cell? ⟨pn, 0, none⟩ = some (.int .i64 (A.length : Int))
  m : w.cell? ⟨pm, 0, none⟩ = some (.int .i64 (B.length : Int))
  a : w.cell? ⟨pa, 0, none⟩ = some (.slice aa A.length ca)
  b : w.cell? ⟨pb, 0, none⟩ = some (.slice ab B.length cb)
  ra : Runs w aa A.length ca A
  rb : Runs w ab B.length cb B
theorem Caught.below {w w' : World} {pn pm pa pb : Nat} {A B : List Int} {aa ab : Option Addr} {ca cb : Nat} (h : Caught w pn pm pa pb A B aa ab ca cb) (hb : Below w.heap.size w w') : Caught w' pn pm pa pb A B aa ab ca cb :=
  ⟨(hb.cell (World.block_lt_of_cell? _ _ h.n)).trans h.n, (hb.cell (World.block_lt_of_cell? _ _ h.m)).trans h.m, (hb.cell (World.block_lt_of_cell? _ _ h.a)).trans h.a, (hb.cell (World.block_lt_of_cell? _ _ h.b)).trans h.b, h.ra.below hb, h.rb.below hb⟩
theorem below_drewN (w : World) (k : Nat) : Below w.heap.size w (w.drewN k) :=
  have h := Below.refl w.heap.size w
  ⟨h.os, h.tape, h.output, h.size, h.block⟩
/-- Where it leads. -/
def TryIs (A B : List Int) (q x : Int) (w : World) (e : Ending) (w' : World) : Prop := ∃ r : Int, e = .returned (.int .i32 r) ∧ Slid (eq2 A B) A.length B.length q x r ∧ Below w.heap.size w w'
theorem Runs.at_ {w : World} {a : Option Addr} {n c : Nat} {l : List Int} (h : Runs w a n c l) {j : Nat} (hj : j < n) : ∃ b off, a = some ⟨b, off, none⟩ ∧ w.cell? ⟨b, off + j, none⟩ = some (.int .i32 (l.getD j 0)) := by
  rcases h.2.2.2 with ⟨h0, _⟩ | ⟨b, off, ha, hc⟩
  · omega
  · exact ⟨b, off, ha, hc j hj⟩
set_option maxRecDepth 100000 in
set_option maxHeartbeats 2000000 in
theorem try_any (A B : List Int) (aa ab : Option Addr) (ca cb pn pm pa pb : Nat) (q x : Int) (w : World) (h : Caught w pn pm pa pb A B aa ab ca cb) (hA : A.length ≤ 4096) (hB : B.length ≤ 4096) (hp : Pt A.length B.length x q) :
    Calls Tryd.prog 93 #[.int .i64 q, .int .i64 x, .pointer (some ⟨pn, 0, none⟩), .pointer (some ⟨pm, 0, none⟩), .pointer (some ⟨pa, 0, none⟩), .pointer (some ⟨pb, 0, none⟩)] w (TryIs A B q x w) := by
  obtain ⟨n, hn⟩ : ∃ n, A.length = n := ⟨_, rfl⟩
  obtain ⟨m, hm⟩ : ∃ m, B.length = m := ⟨_, rfl⟩
  have HN := Lib.hid hn
  have HM := Lib.hid hm
  have HC := Lib.hid h
  have HP := Lib.hid hp
  obtain ⟨i0, hi0⟩ : ∃ i : Nat, (n : Int) - x = i := ⟨(n - x).toNat, by have := hp.xn; omega⟩
  obtain ⟨j0, hj0⟩ : ∃ j : Nat, (m : Int) - (x - q) = j := ⟨(m - (x - q)).toNat, by have := hp.ym; omega⟩
  have k0 := h.n
  have k1 := h.m
  have k2 := h.a
  have k3 := h.b
  rw [hn] at k0 k2
  rw [hm] at k1 k3
  have HI0 := Lib.hid hi0
  have HJ0 := Lib.hid hj0
  have hi0n : (i0 : Int) ≤ n := by have := hp.x0; omega
  have hj0m : (j0 : Int) ≤ m := by have := hp.y0; omega
  have hnI : (n : Int) ≤ 4096 := by omega
  have hmI : (m : Int) ≤ 4096 := by omega
  have hw1 : IntKind.i64.wrap (i0 : Int) = (i0 : Int) := IntWalk.i64_in _ (by omega)
  have hw2 : IntKind.i64.wrap (j0 : Int) = (j0 : Int) := IntWalk.i64_in _ (by omega)
  have hw3 : IntKind.i64.wrap (x - q) = x - q := IntWalk.i64_in _ (by have := hp.x0; have := hp.y0; have := hp.xn; have := hp.ym; omega)
  clear h hp hA hB hn hm
  go_enter Tryd.func93, Tryd.ntmps93
  go_wp2_with fail
  go_quiet (fail)
  clear hw1 hw2 hw3 hi0 hj0
  go_wp2_with fail
  obtain ⟨W0, hW0⟩ : ∃ W0, w.drewN nq = W0 := ⟨_, rfl⟩
  have HB0 := Lib.hid (show Below w.heap.size w W0 by rw [← hW0]; exact below_drewN _ _)
  rw [hW0]
  clear hW0 k0 k1 k2 k3
  go_loopg [9, 10] i0 (fun g v9 v10 W => ∃ (i j : Nat), Below w.heap.size w W ∧ v9 = .int .i64 i ∧ v10 = .int .i64 j ∧ g = i ∧ Hid (i ≤ i0 ∧ j ≤ j0 ∧ i0 + j = j0 + i ∧ ∀ t : Int, x ≤ t → t < (n : Int) - i → eq2 A B t.toNat (t - q).toNat = true))
  case atStart => exact ⟨i0, j0, HB0.out, rfl, rfl, rfl, Lib.hid ⟨Nat.le_refl _, Nat.le_refl _, by omega, fun t h1 h2 => by have := HI0.out; omega⟩⟩
  case round =>
    obtain ⟨i, j, hbw, rfl, rfl, hg, HQ⟩ := hrel
    have HG := Lib.hid hg
    have HBw := Lib.hid hbw
    have HCw := Lib.hid (HC.out.below hbw)
    have hii : (i : Int) ≤ n := by have := HQ.out.1; omega
    have hjj : (j : Int) ≤ m := by have := HQ.out.2.1; omega
    have k0 := HCw.out.n
    have k2 := HCw.out.a
    have k3 := HCw.out.b
    rw [HN.out] at k0 k2
    rw [HM.out] at k3
    have hwn : IntKind.i64.wrap ((n : Int) - i) = (n : Int) - i := IntWalk.i64_in _ (by omega)
    have hwn2 : IntKind.i32.wrap ((n : Int) - i) = (n : Int) - i := IntWalk.i32_in _ (by omega)
    clear hg hbw
    have fin : (i = 0 ∨ j = 0 ∨ ¬ eq2 A B (n - i) (m - j) = true) → Hid (Slid (eq2 A B) A.length B.length q x ((n : Int) - i)) := fun hc => Lib.hid (by
      have h1 := HQ.out; have h2 := HI0.out; have h3 := HJ0.out
      rw [HN.out, HM.out]
      refine ⟨by omega, by omega, by omega, h1.2.2.2, ?_⟩
      rcases hc with hc | hc | hc
      · left; omega
      · right; left; omega
      · right; right
        have e1 : ((n : Int) - i).toNat = n - i := by omega
        have e2 : ((n : Int) - i - q).toNat = m - j := by omega
        rw [e1, e2]; exact hc)
    by_cases hi : i = 0
    · have F := fin (.inl hi)
      have z1 : decide (0 < i) = false := by simp [hi]
      have z2 : decide ((0 : Int) < (i : Int)) = false := by simp [hi]
      clear fin hi
      go_wp2_with fail
      go_quiet (fail)
      go_wp2
      go_ret
      exact ⟨_, rfl, F.out, HBw.out.trans ((below_drewN _ _).mono HBw.out.size)⟩
    · by_cases hj : j = 0
      · have F := fin (.inr (.inl hj))
        have z1 : decide (0 < i) = true := by simp; omega
        have z2 : decide ((0 : Int) < (i : Int)) = true := by simp; omega
        have z3 : decide (0 < j) = false := by simp [hj]
        have z4 : decide ((0 : Int) < (j : Int)) = false := by simp [hj]
        clear fin hi hj
        go_wp2_with fail
        go_quiet (fail)
        go_wp2
        go_ret
        exact ⟨_, rfl, F.out, HBw.out.trans ((below_drewN _ _).mono HBw.out.size)⟩
      · obtain ⟨i1, hi1⟩ : ∃ k, i = k + 1 := ⟨i - 1, by omega⟩
        obtain ⟨j1, hj1⟩ : ∃ k, j = k + 1 := ⟨j - 1, by omega⟩
        have z1 : decide (0 < i) = true := by simp; omega
        have z2 : decide ((0 : Int) < (i : Int)) = true := by simp; omega
        have z3 : decide (0 < j) = true := by simp; omega
        have z4 : decide ((0 : Int) < (j : Int)) = true := by simp; omega
        have y1 : (i : Int) - 1 = (i1 : Int) := by omega
        have y2 : (j : Int) - 1 = (j1 : Int) := by omega
        have y3 : IntKind.i64.wrap (i1 : Int) = (i1 : Int) := IntWalk.i64_in _ (by omega)
        have y4 : IntKind.i64.wrap (j1 : Int) = (j1 : Int) := IntWalk.i64_in _ (by omega)
        have b1 : (i1 : Int) < (n : Int) := by omega
        have b2 : (j1 : Int) < (m : Int) := by omega
        obtain ⟨ba, oa, hba, cA⟩ := HCw.out.ra.at_ (j := i1) (by rw [HN.out]; omega)
        obtain ⟨bb, ob, hbb, cB⟩ := HCw.out.rb.at_ (j := j1) (by rw [HM.out]; omega)
        rw [hba] at k2
        rw [hbb] at k3
        have HE := Lib.hid (show eq2 A B (n - i) (m - j) = (A.getD i1 0 == B.getD j1 0) by
          unfold eq2
          rw [HN.out, HM.out]
          have e1 : n - 1 - (n - i) = i1 := by omega
          have e2 : m - 1 - (m - j) = j1 := by omega
          rw [e1, e2])
        have HI1 := Lib.hid hi1
        have HJ1 := Lib.hid hj1
        obtain ⟨u, hu⟩ : ∃ u, A.getD i1 0 = u := ⟨_, rfl⟩
        obtain ⟨v, hv⟩ : ∃ v, B.getD j1 0 = v := ⟨_, rfl⟩
        rw [hu] at cA HE
        rw [hv] at cB HE
        clear hba hbb hi1 hj1 hi hj hu hv
        by_cases huv : u = v
        · have z5 : (u == v) = true := by simpa using huv
          clear fin huv
          go_wp2_with fail
          go_quiet (fail)
          go_wp2
          go_roundg i1
          case measure => have := HG.out; have := HI1.out; omega
          case rel => exact ⟨i1, j1, HBw.out.trans ((below_drewN _ _).mono HBw.out.size), rfl, rfl, rfl, Lib.hid ⟨by have := HQ.out.1; have := HI1.out; omega, by have := HQ.out.2.1; have := HJ1.out; omega, by have := HQ.out.2.2.1; have := HI1.out; have := HJ1.out; omega, fun t h1 h2 => by
              have q1 := HQ.out; have q2 := HI1.out; have q3 := HJ1.out; have q4 := HI0.out; have q5 := HJ0.out
              by_cases ht : t < (n : Int) - i
              · exact q1.2.2.2 t h1 ht
              · have e1 : t.toNat = n - i := by omega
                have e2 : (t - q).toNat = m - j := by omega
                rw [e1, e2, HE.out]; exact z5⟩⟩
        · have z5 : (u == v) = false := by simpa using huv
          have F := fin (.inr (.inr (by rw [HE.out, z5]; decide)))
          clear fin huv
          go_wp2_with fail
          go_quiet (fail)
          go_wp2
          go_ret
          exact ⟨_, rfl, F.out, HBw.out.trans ((below_drewN _ _).mono HBw.out.size)⟩
#print axioms try_any
end Go.Proofs.YtfoalaoanpbmeaaDoor
