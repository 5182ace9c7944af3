/-
  Merged: RefDisk, RefDisk2, RefUsed.
-/
import Derived.Test.YtemphljkfpkgmaaRfDirAll
import Derived.Test.YtemphljkfpkgmaaDkMathAll
import Derived.Test.YtemphljkfpkgmaaTell
import Derived.Test.YtemphljkfpkgmaaRow
import Derived.Deep.QuietTactic
import Derived.BigQuiet
import Derived.Deep.RegionHeld
import Derived.IntWalk
import Derived.Deep.LoopGhost
namespace Go.Proofs.Ytemphljkfpkgmaa
open Go.RowKit

/-- A slice of bytes, as it lies. -/
structure BRow where
  a : Option Addr
  n : Nat
  c : Nat
  l : List UInt8
instance : Inhabited BRow := ⟨⟨none, 0, 0, []⟩⟩
abbrev BRow.v (x : BRow) : Value := .slice x.a x.n x.c
def rowK : Kind BRow := ⟨fun x => [.slice x.a x.n x.c], 1, fun _ => True, by decide, fun _ _ => rfl, fun x _ v hv => by
  simp only [List.mem_cons, List.not_mem_nil, or_false] at hv
  rcases hv with rfl; rfl⟩
def numK : Kind Nat := ⟨fun x => [.int .i64 (x : Int)], 1, fun _ => True, by decide, fun _ _ => rfl, fun x _ v hv => by
  simp only [List.mem_cons, List.not_mem_nil, or_false] at hv
  rcases hv with rfl; rfl⟩
instance : Inhabited DAct := ⟨⟨[], [], 0⟩⟩
def actK : Kind DAct := ⟨fun x => [.string (strB x.src), .string (strB x.dst), .int .i64 (x.file : Int)], 3, fun _ => True, by decide, fun _ _ => rfl, fun x _ v hv => by
  simp only [List.mem_cons, List.not_mem_nil, or_false] at hv
  rcases hv with rfl | rfl | rfl <;> rfl⟩
theorem rowInfo : (Try.prog.info? 35).map (fun i => (i.zero, i.size, i.bytes)) = some (some (.slice none 0 0), 1, 24) := by kernel_rfl
theorem numInfo : (Try.prog.info? 3).map (fun i => (i.zero, i.size, i.bytes)) = some (some (.int .i64 0), 1, 8) := by kernel_rfl
theorem actInfo : (Try.prog.info? 81).map (fun i => (i.zero, i.size, i.bytes)) = some (some (.agg #[.string ByteArray.empty, .string ByteArray.empty, .int .i64 0]), 3, 40) := by kernel_rfl

/-- Where its parts lie. -/
structure RVal where
  made : Bool
  q : Int
  af : Option Addr
  nf : Nat
  cf : Nat
  ay : Option Addr
  ny : Nat
  cy : Nat
  an : Option Addr
  nn : Nat
  cn : Nat
  ak : Option Addr
  nk : Nat
  ck : Nat
  aa : Option Addr
  na : Nat
  ca : Nat
abbrev refC (V : RVal) (S : DS) : Array Value :=
  #[.bool V.made, .int .i64 V.q, .slice V.af V.nf V.cf, .slice V.ay V.ny V.cy, .slice V.an V.nn V.cn, .slice V.ak V.nk V.ck, .slice V.aa V.na V.ca, .int .i64 (S.refused : Int), .int .i64 (S.arm : Int), .bool S.down]
/-- Rows of bytes that can be read. -/
def RowsR (w : World) (a : Option Addr) (n c : Nat) (fs : List (List UInt8)) : Prop :=
  ∃ R : List BRow, AtG rowK w a n c R ∧ (∀ j, j < R.length → Bytes w (gd R j).a (gd R j).n (gd R j).c (gd R j).l) ∧ R.map (·.l) = fs
structure RefIn (w : World) (V : RVal) (S : DS) : Prop where
  files : RowsR w V.af V.nf V.cf (S.files.map (·.1))
  synced : AtG numK w V.ay V.ny V.cy (S.files.map (·.2))
  now : AtG entK w V.an V.nn V.cn S.now
  kept : AtG entK w V.ak V.nk V.ck S.kept
  acts : AtG actK w V.aa V.na V.ca S.acts
section
variable {w w' : World} {V : RVal} {S : DS} {a : Option Addr} {n c : Nat} {fs : List (List UInt8)}
theorem RowsR.below (h : RowsR w a n c fs) (hb : Below w.heap.size w w') : RowsR w' a n c fs := by
  obtain ⟨R, h1, h2, h3⟩ := h
  exact ⟨R, h1.below hb, fun j hj => (h2 j hj).below hb, h3⟩
theorem RowsR.len (h : RowsR w a n c fs) : fs.length = n := by
  obtain ⟨R, h1, h2, h3⟩ := h
  rw [← h3, List.length_map, h1.1]
theorem RowsR.le (h : RowsR w a n c fs) : n ≤ c ∧ c ≤ 9223372036854775807 := by
  obtain ⟨R, h1, h2, h3⟩ := h
  exact ⟨h1.2.1, h1.2.2.1⟩
/-- One row: its cell, what it reads as. -/
theorem RowsR.at_ (h : RowsR w a n c fs) {j : Nat} (hj : j < n) : ∃ b off a1 n1 c1, a = some ⟨b, off, none⟩ ∧ w.cell? ⟨b, off + j, none⟩ = some (.slice a1 n1 c1) ∧ Bytes w a1 n1 c1 (fs.getD j []) := by
  obtain ⟨R, h1, h2, h3⟩ := h
  obtain ⟨b, off, rfl⟩ := h1.some_ (by omega)
  have hl := h1.1
  refine ⟨b, off, (gd R j).a, (gd R j).n, (gd R j).c, rfl, ?_, ?_⟩
  · have := h1.cell j hj 0 (.slice (gd R j).a (gd R j).n (gd R j).c) rfl
    have hk : rowK.k = 1 := rfl
    rwa [hk, Nat.mul_one, Nat.add_zero] at this
  · have := h2 j (by omega)
    have e : fs.getD j [] = (gd R j).l := by
      rw [← h3]
      unfold gd
      simp [List.getD_eq_getElem?_getD, List.getElem?_eq_getElem (show j < R.length by omega)]
    rwa [e]
theorem RefIn.below (h : RefIn w V S) (hb : Below w.heap.size w w') : RefIn w' V S := ⟨h.files.below hb, h.synced.below hb, h.now.below hb, h.kept.below hb, h.acts.below hb⟩
theorem RefIn.lens (h : RefIn w V S) : V.nf = S.files.length ∧ V.ny = S.files.length ∧ V.nn = S.now.length ∧ V.nk = S.kept.length ∧ V.na = S.acts.length := by
  have h1 := h.files.len
  have h2 := h.synced.1
  rw [List.length_map] at h1 h2
  exact ⟨h1.symm, h2.symm, h.now.1.symm, h.kept.1.symm, h.acts.1.symm⟩
end
/-- It may be, and is small. -/
structure Ok (S : DS) : Prop where
  inv : Inv S
  few : Few S 1000
#print axioms RowsR.at_
end Go.Proofs.Ytemphljkfpkgmaa

namespace Go.Proofs.Ytemphljkfpkgmaa
open Go.RowKit

abbrev refL (V : RVal) (S : DS) : List Value := (refC V S).toList
theorem refL_arr (V : RVal) (S : DS) : (refL V S).toArray = refC V S := rfl
theorem infoD : (Try.prog.info? 31).map (·.size) = some 10 := by kernel_rfl
theorem refL_one (V : RVal) (S : DS) : ∀ v ∈ refL V S, v.oneCell' = true := fun v hv => by
  simp only [refL, List.mem_cons, List.not_mem_nil, or_false] at hv
  rcases hv with rfl | rfl | rfl | rfl | rfl | rfl | rfl | rfl | rfl | rfl <;> rfl
def zeroD : List Value := [.bool false, .int .i64 0, .slice none 0 0, .slice none 0 0, .slice none 0 0, .slice none 0 0, .slice none 0 0, .int .i64 0, .int .i64 0, .bool false]
theorem zero_disk (w : World) : (zeroValue 31).run Try.prog w = .ok (.agg zeroD.toArray) w := by kernel_rfl
/-- A block that holds the disk. -/
def RBox (w : World) (g : Nat) (V : RVal) (S : DS) : Prop := RowAt w g 31 (refL V S)
theorem ready_stepD {ops : Array Oper} {o : Oper} {a : Act} {w : World} {K : Act → World → Prop} {Q : Exit → Act → World → Prop} (h : o.wp Try.prog a w K Q) (hw : Region.wanted o (yielded ops a.tmps) = true := by rfl) : if Region.wanted o (yielded ops a.tmps) = true then o.wp Try.prog a w K Q else K (a.put o.dst undef) w := by
  rw [if_pos hw]; exact h
/-- A whole row is stored, as a step of a region. -/
theorem wp_store_row {w : World} {o : Oper} {a : Act} {K : Act → World → Prop} {Q : Exit → Act → World → Prop} (ty : TypeId) (x y : Operand) (ho : o.op = .store ty x y)
    (g : Nat) (t : TypeId) (old cs : List Value) (hx : a.eval x = .pointer (some ⟨g, 0, none⟩)) (hy : a.eval y = .agg cs.toArray) (hg : RowAt w g t old) (hl : old.length = cs.length)
    (hi : (Try.prog.info? ty).map (·.size) = some cs.length) (h1 : ∀ v ∈ cs, v.oneCell' = true)
    (h : ∀ w1, RowAt w1 g t cs → w.grownBy w1 (some g) → w1.heap.size = w.heap.size → K (a.put o.dst undef) w1) : o.wp Try.prog a w K Q := by
  have hs := run_storeVar_row (P := Try.prog) w g t ty old.toArray cs.toArray hg (by simpa using hi) (by simpa using hl) (all_oneCell_toArray h1)
  have hr : (execOp a.eval o).run Try.prog w = .ok .skip (w.setRow g cs.toArray) := by
    unfold execOp
    simp only [ho, hx, hy, Instr.storeAt, Instr.sureAddr, Sem.run_bind, Sem.run_pure, Result.andThen_ok, hs]
  unfold Oper.wp
  rw [hr]
  exact h _ (setRow_heap w g old.toArray cs.toArray t (0, 0) hg) ⟨rfl, rfl, rfl, by simp, fun k _ hk => setRow_other w g k _ (fun e => hk (by simp [e]))⟩ (by simp)
theorem exec_loadD {w : World} {o : Oper} {a : Act} (x : Operand) (ho : o.op = .load 31 x) (g : Nat) (V : RVal) (S : DS) (hx : a.eval x = .pointer (some ⟨g, 0, none⟩)) (hg : RBox w g V S) : (execOp a.eval o).run Try.prog w = .ok (.value (.agg (refC V S))) w := by
  unfold execOp
  simp only [ho, hx, Instr.loadAt, Instr.sureAddr, Sem.run_bind, Sem.run_pure, Result.andThen_ok, run_load_row hg Try.underlying31 rfl infoD]
section
variable {w w' : World} {g : Nat} {V : RVal} {S : DS}
theorem RBox.cells (h : RBox w g V S) : w.cell? ⟨g, 0, none⟩ = some (.bool V.made) ∧ w.cell? ⟨g, 1, none⟩ = some (.int .i64 V.q) ∧ w.cell? ⟨g, 2, none⟩ = some (.slice V.af V.nf V.cf) ∧ w.cell? ⟨g, 3, none⟩ = some (.slice V.ay V.ny V.cy) ∧
    w.cell? ⟨g, 4, none⟩ = some (.slice V.an V.nn V.cn) ∧ w.cell? ⟨g, 5, none⟩ = some (.slice V.ak V.nk V.ck) ∧ w.cell? ⟨g, 6, none⟩ = some (.slice V.aa V.na V.ca) ∧ w.cell? ⟨g, 7, none⟩ = some (.int .i64 (S.refused : Int)) ∧
    w.cell? ⟨g, 8, none⟩ = some (.int .i64 (S.arm : Int)) ∧ w.cell? ⟨g, 9, none⟩ = some (.bool S.down) :=
  ⟨h.cell 0 rfl, h.cell 1 rfl, h.cell 2 rfl, h.cell 3 rfl, h.cell 4 rfl, h.cell 5 rfl, h.cell 6 rfl, h.cell 7 rfl, h.cell 8 rfl, h.cell 9 rfl⟩
theorem RBox.below (h : RBox w g V S) (hb : Below w.heap.size w w') : RBox w' g V S := RowAt.below h hb
theorem results_ref2 {fn : Func} {p t : Tmp} (h : fn.results = #[.cell p 31, .tmp t]) (tmps : Array Value) (w : World) (g : Nat) (V : RVal) (S : DS)
    (hp : tmps.getD p undef = .pointer (some ⟨g, 0, none⟩)) (hg : RBox w g V S) : (results fn tmps).run Try.prog w = .ok (.tuple #[.agg (refC V S), tmps.getD t undef]) w := by
  have hp' : tmps[p]?.getD undef = .pointer (some ⟨g, 0, none⟩) := by simpa using hp
  have hr := run_load_row hg Try.underlying31 rfl infoD
  simp [results, h, hp', asAddr, hr]
theorem results_ref1 {fn : Func} {p : Tmp} (h : fn.results = #[.cell p 31]) (tmps : Array Value) (w : World) (g : Nat) (V : RVal) (S : DS)
    (hp : tmps.getD p undef = .pointer (some ⟨g, 0, none⟩)) (hg : RBox w g V S) : (results fn tmps).run Try.prog w = .ok (.agg (refC V S)) w := by
  have hp' : tmps[p]?.getD undef = .pointer (some ⟨g, 0, none⟩) := by simpa using hp
  have hr := run_load_row hg Try.underlying31 rfl infoD
  simp [results, h, hp', asAddr, hr]
end

set_option maxRecDepth 100000 in
set_option maxHeartbeats 1000000 in
theorem refReady_any (V : RVal) (S : DS) (a b : Nm) (w : World) (hm : V.made = true) {z : Nat} (hz : readyS S a b = z) :
    Calls Try.prog 34 #[.agg (refC V S), .string (strB a), .string (strB b)] w fun e w' => e = .returned (.int .i64 (z : Int)) ∧ Below w.heap.size w w' := by
  have MA := Lib.hid (fun W => refMay_any a W)
  have MB := Lib.hid (fun W => refMay_any b W)
  unfold readyS at hz
  cases hd : S.down with
  | true =>
    have HZ := Lib.hid (show z = 9 by rw [hd] at hz; exact hz.symm)
    clear hz
    go_enter Try.func34, Try.ntmps34
    go_wp2_with (refine box_row rfl 31 (.tmp 0) (refL V S) rfl rfl ?_; intro w1 hr1 hb1 _; obtain ⟨k0, k1, k2, k3, k4, k5, k6, k7, k8, k9⟩ := RBox.cells hr1; rw [hm] at k0; rw [hd] at k9; have HB := Lib.hid hb1; clear hb1)
    go_ret
    exact ⟨by rw [HZ.out]; rfl, HB.out⟩
  | false =>
    cases ha : mayN a with
    | false =>
      have HZ := Lib.hid (show z = 10 by rw [hd, ha] at hz; exact hz.symm)
      clear hz
      rw [ha] at MA
      go_enter Try.func34, Try.ntmps34
      go_wp2_with (first
        | (refine box_row rfl 31 (.tmp 0) (refL V S) rfl rfl ?_; intro w1 hr1 hb1 _; obtain ⟨k0, k1, k2, k3, k4, k5, k6, k7, k8, k9⟩ := RBox.cells hr1; rw [hm] at k0; rw [hd] at k9; have HB := Lib.hid hb1; clear hb1)
        | (go_at_call 54; (with_reducible refine (MA.out _).mono ?_); rintro e _ ⟨rfl, rfl⟩))
      go_ret
      exact ⟨by rw [HZ.out]; rfl, HB.out⟩
    | true =>
      cases hb : mayN b with
      | false =>
        have HZ := Lib.hid (show z = 10 by rw [hd, ha, hb] at hz; exact hz.symm)
        clear hz
        rw [ha] at MA
        rw [hb] at MB
        go_enter Try.func34, Try.ntmps34
        go_wp2_with (first
          | (refine box_row rfl 31 (.tmp 0) (refL V S) rfl rfl ?_; intro w1 hr1 hb1 _; obtain ⟨k0, k1, k2, k3, k4, k5, k6, k7, k8, k9⟩ := RBox.cells hr1; rw [hm] at k0; rw [hd] at k9; have HB := Lib.hid hb1; clear hb1)
          | (go_at_call 54; have Q1 := Q0; (with_reducible refine (MB.out _).mono ?_); rintro e _ ⟨rfl, rfl⟩)
          | (go_at_call 54; (with_reducible refine (MA.out _).mono ?_); rintro e _ ⟨rfl, rfl⟩; have Q0 := trivial))
        go_ret
        exact ⟨by rw [HZ.out]; rfl, HB.out⟩
      | true =>
        have HZ := Lib.hid (show z = 0 by rw [hd, ha, hb] at hz; exact hz.symm)
        clear hz
        rw [ha] at MA
        rw [hb] at MB
        go_enter Try.func34, Try.ntmps34
        go_wp2_with (first
          | (refine box_row rfl 31 (.tmp 0) (refL V S) rfl rfl ?_; intro w1 hr1 hb1 _; obtain ⟨k0, k1, k2, k3, k4, k5, k6, k7, k8, k9⟩ := RBox.cells hr1; rw [hm] at k0; rw [hd] at k9; have HB := Lib.hid hb1; clear hb1)
          | (go_at_call 54; have Q1 := Q0; (with_reducible refine (MB.out _).mono ?_); rintro e _ ⟨rfl, rfl⟩)
          | (go_at_call 54; (with_reducible refine (MA.out _).mono ?_); rintro e _ ⟨rfl, rfl⟩; have Q0 := trivial))
        go_ret
        exact ⟨by rw [HZ.out]; rfl, HB.out⟩

/-- What armed hands back. -/
def ArmedEnd (w : World) (V : RVal) (S : DS) (e : Ending) (w' : World) : Prop := e = .returned (.tuple #[.agg (refC V (armS S)), .bool (armF S)]) ∧ Below w.heap.size w w'
set_option maxRecDepth 100000 in
set_option maxHeartbeats 1000000 in
theorem refArmed_any (V : RVal) (S : DS) (w : World) (hd : S.down = false) (ha : S.arm ≤ 9223372036854775807) :
    Calls Try.prog 36 #[.agg (refC V S)] w (ArmedEnd w V S) := by
  by_cases h0 : S.arm = 0
  · have HE := Lib.hid (show armS S = S ∧ armF S = false by
      obtain ⟨a1, a2, a3, a4, a5, a6, a7, a8⟩ := S
      simp only at hd h0
      subst hd h0
      exact ⟨rfl, rfl⟩)
    go_enter Try.func36, Try.ntmps36
    go_wp2_with (first
      | (refine box_row rfl 31 (.tmp 0) (refL V S) rfl rfl ?_; intro w1 hr1 hb1 hs1; have HB := Lib.hid hb1; have HR1 := Lib.hid hr1; have HS1 := Lib.hid hs1; clear hb1 hr1 hs1)
      | (refine alloc_row rfl 31 zeroD rfl zero_disk ?_; intro w2 hr2 hb2 hs2; have HB2 := Lib.hid (HB.out.trans (hb2.mono HB.out.size)); have HR2 := Lib.hid (HR1.out.below hb2); have HZ2 := Lib.hid hr2; obtain ⟨k0, k1, k2, k3, k4, k5, k6, k7, k8, k9⟩ := RBox.cells HR2.out; rw [h0] at k8; clear hb2 hr2 hs2)
      | (refine load_row rfl 31 _ rfl w.heap.size _ (refL V S) _ rfl HR2.out Try.underlying31 rfl infoD ?_)
      | (refine store_row rfl 31 _ _ rfl w1.heap.size _ zeroD (refL V S) rfl rfl HZ2.out rfl infoD (refL_one V S) ?_; intro w3 hr3 hg3 _; have HB3 := Lib.hid (HB2.out.grown hg3 HB2.out.size (fun k hk => by cases hk; exact HB.out.size))))
    exact bodyPost_ret (results_ref2 rfl _ _ w1.heap.size V S rfl hr3) rfl ⟨by rw [HE.out.1, HE.out.2]; rfl, HB3.out⟩
  · obtain ⟨m, hm⟩ : ∃ m, S.arm = m + 1 := ⟨S.arm - 1, by omega⟩
    obtain ⟨q, hq⟩ : ∃ q, decide (m = 0) = q := ⟨_, rfl⟩
    have HE := Lib.hid (show armS S = { S with arm := m, down := q } ∧ armF S = q from ⟨by unfold armS; rw [hm, ← hq]; simp, by unfold armF; rw [hm, ← hq]; simp⟩)
    have km : ((m : Int) == 0) = q := by rw [← hq]; by_cases h : m = 0 <;> simp [h]
    have kn : (((m + 1 : Nat) : Int) == 0) = false := by simp; omega
    have ks : ((m + 1 : Nat) : Int) - 1 = (m : Int) := by omega
    have kw : IntKind.i64.wrap (m : Int) = (m : Int) := IntWalk.i64_in _ (by omega)
    clear h0 hq ha
    go_enter Try.func36, Try.ntmps36
    go_wp2_with (first
      | (refine box_row rfl 31 (.tmp 0) (refL V S) rfl rfl ?_; intro w1 hr1 hb1 hs1; have HB := Lib.hid hb1; have HR1 := Lib.hid hr1; have HS1 := Lib.hid hs1; clear hb1 hr1 hs1)
      | (refine alloc_row rfl 31 zeroD rfl zero_disk ?_; intro w2 hr2 hb2 hs2; have HB2 := Lib.hid (HB.out.trans (hb2.mono HB.out.size)); have HR2 := Lib.hid (HR1.out.below hb2); have HZ2 := Lib.hid hr2; obtain ⟨k0, k1, k2, k3, k4, k5, k6, k7, k8, k9⟩ := RBox.cells HR2.out; rw [hm] at k8; have f8 := HR2.out.free 8; have f9 := (HR2.out.set 8 (.int .i64 (m : Int))).free 9; clear hb2 hr2 hs2))
    obtain ⟨w4, hw4⟩ : ∃ w4, ((w2.setCell ⟨w.heap.size, 8, none⟩ (.int .i64 (m : Int))).setCell ⟨w.heap.size, 9, none⟩ (.bool q)) = w4 := ⟨_, rfl⟩
    have HR4 := Lib.hid (show RBox w4 w.heap.size V { S with arm := m, down := q } by rw [← hw4]; exact (HR2.out.set 8 _).set 9 _)
    have HZ4 := Lib.hid (show RowAt w4 w1.heap.size 31 zeroD by rw [← hw4]; exact (HZ2.out.other (by have := HS1.out; show w1.heap.size ≠ w.heap.size; omega) _).other (by have := HS1.out; show w1.heap.size ≠ w.heap.size; omega) _)
    have HB4 := Lib.hid (show Below w.heap.size w w4 by rw [← hw4]; exact (HB2.out.setCell (Nat.le_refl _) _).setCell (Nat.le_refl _) _)
    rw [hw4]
    clear hw4 k0 k1 k2 k3 k4 k5 k6 k7 k8 k9 f8 f9
    refine wp_region_held_drew (S := fun W => RBox W w.heap.size V { S with arm := m, down := q } ∧ Below w.heap.size w W) (by kernel_rfl) (⟨HR4.out, HB4.out.drew⟩) (fun hHeld => ?_)
    refine wpAnyH_take (i := 0) (oi := ⟨some 16, .load 31 (.tmp 1), _, _, _, _⟩) (v := (.agg (refC V { S with arm := m, down := q }))) rfl (by kernel_rfl) (by kernel_rfl) (by kernel_rfl) (fun _ _ _ h => h) (Or.inl ⟨by rfl, fun W hW => exec_loadD _ rfl _ V _ rfl hW.1⟩) (by assumption) ?_
    simp only [Act.put, List.setIfInBounds_toArray, List.set_cons_zero, List.set_cons_succ]
    refine wpAnyH_take (i := 1) (oi := ⟨some 17, .fieldAddr 31 (.tmp 1) 9, _, _, _, _⟩) (v := (.pointer (some ⟨w.heap.size, 0 + 9, none⟩))) rfl (by kernel_rfl) (by kernel_rfl) (by kernel_rfl) (fun _ _ _ h => h) (Or.inl ⟨by rfl, fun W hW => by go_simp⟩) (by assumption) ?_
    simp only [Act.put, List.setIfInBounds_toArray, List.set_cons_zero, List.set_cons_succ]
    refine wpAnyH_take (i := 2) (oi := ⟨some 18, .load 4 (.tmp 17), _, _, _, _⟩) (v := (.bool q)) rfl (by kernel_rfl) (by kernel_rfl) (by kernel_rfl) (fun _ _ _ h => h) (Or.inl ⟨by rfl, fun W hW => by have hcell := (RBox.cells hW.1).2.2.2.2.2.2.2.2.2; go_simp⟩) (by assumption) ?_
    simp only [Act.put, List.setIfInBounds_toArray, List.set_cons_zero, List.set_cons_succ]
    refine wpAnyH_ready (rs := [3]) (by kernel_rfl) (by simp) ?_
    refine AllReadyH.cons (o := ⟨none, .store 31 (.tmp 2) (.tmp 16), _, _, _, _⟩) rfl (fun K hK => ?_) AllReadyH.nil
    refine ready_stepD (wp_store_row 31 (.tmp 2) (.tmp 16) rfl w1.heap.size _ zeroD (refL V { S with arm := m, down := q }) rfl rfl HZ4.out rfl infoD (refL_one _ _) ?_)
    intro w5 hr5 hg5 _
    have HR5 := Lib.hid ((⟨hr5, HB4.out.drew.grown hg5 HB4.out.drew.size (fun k hk => by cases hk; exact HB.out.size)⟩ : RBox w5 w1.heap.size V { S with arm := m, down := q } ∧ Below w.heap.size w w5))
    refine hK.out _ _ (⟨RowAt.grown (show RBox w4.drew w.heap.size V { S with arm := m, down := q } from HR4.out) hg5 (fun e => by have e2 := Option.some.inj e; have := HS1.out; omega), HR5.out.2⟩) (fun hHeld => ?_)
    clear hK K
    refine wpAnyH_take (i := 4) (oi := ⟨some 3, .assign (.tmp 18), _, _, _, _⟩) (v := (.bool q)) rfl (by kernel_rfl) (by kernel_rfl) (by kernel_rfl) (fun _ _ _ h => h) (Or.inl ⟨by rfl, fun W hW => by go_simp⟩) (by assumption) ?_
    simp only [Act.put, List.setIfInBounds_toArray, List.set_cons_zero, List.set_cons_succ]
    refine wpAnyH_done (by kernel_rfl) ?_ _
    go_wp2
    exact bodyPost_ret (results_ref2 rfl _ _ w1.heap.size V _ rfl HR5.out.1) rfl ⟨by rw [HE.out.1, HE.out.2]; rfl, HR5.out.2⟩
#print axioms refReady_any
end Go.Proofs.Ytemphljkfpkgmaa

namespace Go.Proofs.Ytemphljkfpkgmaa
open Go.RowKit

theorem sum_take {l : Dir} {i : Nat} {fs : List FileD} (hi : i < l.length) : usedOf fs (l.take (i + 1)) = usedOf fs (l.take i) + (fs.getD (gd l i).2 ([], 0)).1.length := by
  have e : gd l i = l[i] := by unfold gd; simp [hi]
  rw [e]
  unfold usedOf
  rw [List.take_succ_eq_append_getElem hi, List.map_append, List.sum_append]
  simp only [List.map_cons, List.map_nil, List.sum_cons, List.sum_nil, Nat.add_zero]
theorem files_get (fs : List FileD) (k : Nat) (hk : k < fs.length) : (fs.map (·.1)).getD k [] = (fs.getD k ([], 0)).1 := by simp [List.getD_eq_getElem?_getD, List.getElem?_eq_getElem hk]
theorem used_take_le (fs : List FileD) (l : Dir) (i : Nat) : usedOf fs (l.take i) ≤ usedOf fs l := by
  have : usedOf fs l = usedOf fs (l.take i) + usedOf fs (l.drop i) := by
    unfold usedOf
    rw [← List.sum_append, ← List.map_append, List.take_append_drop]
  omega

set_option maxRecDepth 100000 in
set_option maxHeartbeats 1000000 in
theorem refUsed_any (V : RVal) (S : DS) (w : World) (h : RefIn w V S) (hok : Inv S) (hfew : Few S 1000) :
    Calls Try.prog 8 #[.agg (refC V S)] w fun e w' => e = .returned (.int .i64 (usedS S : Nat)) ∧ Below w.heap.size w w' := by
  have HI := Lib.hid h
  have HNL := Lib.hid h.now.1
  have HFL := Lib.hid h.files.len
  have HK := Lib.hid hok.nids
  have HU := Lib.hid (used_le hok hfew)
  have hl1 := h.now.2.1
  have hl2 := h.now.2.2.1
  have hnI : (V.nn : Int) ≤ 9223372036854775807 := by omega
  clear h hok hfew hl1 hl2
  go_enter Try.func8, Try.ntmps8
  go_wp2_with (refine box_row rfl 31 (.tmp 0) (refL V S) rfl rfl ?_; intro w1 hr1 hb1 _; have HR := Lib.hid hr1; have HB := Lib.hid hb1; clear hb1 hr1)
  go_loopg [3, 4] V.nn (fun g v3 v4 W => ∃ i : Nat, Below w1.heap.size w1 W ∧ v3 = .int .i64 (usedOf S.files (S.now.take i) : Nat) ∧ v4 = .int .i64 i ∧ g + i = V.nn)
  case atStart => exact ⟨0, Below.refl _ _, rfl, rfl, rfl⟩
  case round =>
    obtain ⟨i, hbw, rfl, rfl, hg⟩ := hrel
    have HG := Lib.hid hg
    have HB1 := Lib.hid hbw
    have HB2 := Lib.hid (HB.out.trans (hbw.mono HB.out.size))
    have hi0 : (0 : Int) ≤ (i : Int) := by omega
    have hiI : (i : Int) ≤ (V.nn : Int) := by omega
    obtain ⟨k0, k1, k2, k3, k4, k5, k6, k7, k8, k9⟩ := RBox.cells (HR.out.below hbw)
    clear k0 k1 k3 k5 k6 k7 k8 k9
    by_cases hi : (i : Int) < (V.nn : Int)
    · have hin : i < V.nn := by omega
      have HIn := Lib.hid hin
      have hid := HI.out.below HB2.out
      obtain ⟨b, o, hbo⟩ := hid.now.some_ (by omega)
      have hnow := hid.now
      rw [hbo] at hnow k4
      have c1 := hnow.cell i hin 1 (.int .i64 ((gd S.now i).2 : Int)) rfl
      have hk2 : entK.k = 2 := rfl
      rw [hk2] at c1
      have hkf : (gd S.now i).2 < S.files.length := HK.out _ (gd_mem (by rw [HNL.out]; exact hin))
      have hfl := HFL.out
      rw [List.length_map] at hfl
      have hkn : (gd S.now i).2 < V.nf := by omega
      obtain ⟨bf, of_, a1, n1, c1', hfo, cf, hby⟩ := hid.files.at_ hkn
      rw [hfo] at k2
      rw [files_get _ _ hkf] at hby
      have HST := Lib.hid (sum_take (fs := S.files) (show i < S.now.length by rw [HNL.out]; exact hin))
      have HLE := Lib.hid (used_take_le S.files S.now (i + 1))
      have hn1 := hby.1
      rw [hn1] at HST
      obtain ⟨u, hu⟩ : ∃ u, usedOf S.files (S.now.take i) = u := ⟨_, rfl⟩
      rw [hu] at HST
      rw [hu]
      obtain ⟨k, hk⟩ : ∃ k, (gd S.now i).2 = k := ⟨_, rfl⟩
      rw [hk] at c1 cf hkn
      have huB : u + n1 ≤ 1000 * 1073741824 := by have := HST.out; have := HLE.out; have := HU.out; unfold usedS at this; omega
      have hu0 : (0 : Int) ≤ (u : Int) := by omega
      have huI : (u : Int) + (n1 : Int) ≤ 1073741824000 := by omega
      have hk0 : (0 : Int) ≤ (k : Int) := by omega
      have hkI : (k : Int) < (V.nf : Int) := by omega
      have hnfI : (V.nf : Int) ≤ 9223372036854775807 := by have := hid.files.le; omega
      clear hg hin hid hbo hnow hkf hfl hfo hby hn1 hu hk huB hk2 hkn
      go_wp2
      go_quiet (fail)
      have HBq := Lib.hid (below_drewS HB1.out nq)
      generalize wr.drewN nq = wq at HBq ⊢
      clear k2 k4 c1 cf
      go_wp2
      go_roundg (V.nn - (i + 1))
      case measure => have := HG.out; have := HIn.out; omega
      case rel => exact ⟨i + 1, HBq.out, by rw [HST.out]; go_num, by go_num, by have := HG.out; have := HIn.out; omega⟩
    · have him : i = V.nn := by omega
      have HR9 := Lib.hid (show usedOf S.files (S.now.take V.nn) = usedS S by
        unfold usedS
        rw [List.take_of_length_le (by rw [HNL.out]; exact Nat.le_refl _)])
      clear hg
      go_wp2
      go_ret
      exact ⟨by rw [HR9.out]; rfl, HB2.out⟩
#print axioms refUsed_any
end Go.Proofs.Ytemphljkfpkgmaa
