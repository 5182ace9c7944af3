/-
  Blocks that hold a whole row of cells (an array, a struct): a new one, one out of a value, one that is loaded, one that is stored; one cell of it.
-/
import Derived.Test.YtheigemfbcgjcaaProg
import Derived.WalkKit
import Derived.WalkSpells
import Derived.Lib.Hide
import Derived.Deep.MidRow
namespace Go.Proofs.Ytheigemfbcgjcaa
open Go.RowKit

/-- Block g holds these cells. -/
def RowAt (w : World) (g : Nat) (t : TypeId) (cs : List Value) : Prop := w.heap[g]? = some (.cells cs.toArray t (0, 0))

theorem wpList_ok {P : Program} {w w' : World} {ops : Array Oper} {rest : List Oper} {o : Oper} {a : Act} {Q : Exit → Act → World → Prop} {v : Value} (hgd : o.guard = none)
    (hr : (execOp a.eval o).run P w = .ok (.value v) w') (h : wpList P ops Q rest (a.put o.dst v) w') : wpList P ops Q (o :: rest) a w :=
  wpList_plain hgd fun K hK => by unfold Oper.wp; rw [hr]; exact hK _ _ h

theorem wpList_skip {P : Program} {w w' : World} {ops : Array Oper} {rest : List Oper} {o : Oper} {a : Act} {Q : Exit → Act → World → Prop} (hgd : o.guard = none)
    (hr : (execOp a.eval o).run P w = .ok .skip w') (h : wpList P ops Q rest (a.put o.dst undef) w') : wpList P ops Q (o :: rest) a w :=
  wpList_plain hgd fun K hK => by unfold Oper.wp; rw [hr]; exact hK _ _ h

theorem RowAt.lt {w : World} {g : Nat} {t : TypeId} {cs : List Value} (h : RowAt w g t cs) : g < w.heap.size := by
  rcases Nat.lt_or_ge g w.heap.size with h' | h'
  · exact h'
  · unfold RowAt at h
    rw [Array.getElem?_eq_none h'] at h; cases h

theorem RowAt.cell {w : World} {g : Nat} {t : TypeId} {cs : List Value} (h : RowAt w g t cs) (j : Nat) {v : Value} (hj : cs[j]? = some v) : w.cell? ⟨g, j, none⟩ = some v := by
  rw [cell_of_row w g j cs.toArray t (0, 0) h]; simpa using hj

theorem RowAt.free {w : World} {g : Nat} {t : TypeId} {cs : List Value} (h : RowAt w g t cs) (j : Nat) : w.frozen? ⟨g, j, none⟩ = false := frozen_of_row w g j cs.toArray t h

theorem RowAt.set {w : World} {g : Nat} {t : TypeId} {cs : List Value} (h : RowAt w g t cs) (j : Nat) (v : Value) : RowAt (w.setCell ⟨g, j, none⟩ v) g t (cs.set j v) := by
  unfold RowAt
  rw [heap_setCell_same w g j cs.toArray t v h]
  simp

theorem RowAt.below {w w' : World} {g : Nat} {t : TypeId} {cs : List Value} (h : RowAt w g t cs) (hb : Below w.heap.size w w') : RowAt w' g t cs := by
  unfold RowAt; rw [hb.block g h.lt]; exact h

theorem RowAt.other {w : World} {g : Nat} {t : TypeId} {cs : List Value} (h : RowAt w g t cs) {a : Addr} (ha : g ≠ a.block) (v : Value) : RowAt (w.setCell a v) g t cs := by
  unfold RowAt; rw [heap_setCell_other w a g v ha]; exact h

theorem RowAt.grown {w w' : World} {g : Nat} {t : TypeId} {cs : List Value} {row : Option Nat} (h : RowAt w g t cs) (hg : w.grownBy w' row) (hr : some g ≠ row) : RowAt w' g t cs := by
  unfold RowAt; rw [hg.block g h.lt hr]; exact h

theorem RowAt.drew {w : World} {g : Nat} {t : TypeId} {cs : List Value} (h : RowAt w g t cs) : RowAt w.drew g t cs := h

/-- A new variable of a row's type. -/
theorem alloc_row {w : World} {ops : Array Oper} {rest : List Oper} {o : Oper} {a : Act} {Q : Exit → Act → World → Prop} (hgd : o.guard = none) (t : TypeId) (cs : List Value) (ho : o.op = .alloc t)
    (hz : ∀ w : World, (zeroValue t).run Try.prog w = .ok (.agg cs.toArray) w)
    (h : ∀ w1, RowAt w1 w.heap.size t cs → Below w.heap.size w w1 → w1.heap.size = w.heap.size + 1 → wpList Try.prog ops Q rest (a.put o.dst (.pointer (some ⟨w.heap.size, 0, none⟩))) w1) :
    wpList Try.prog ops Q (o :: rest) a w := by
  have hr : (Instr.alloc t true (.tuple #[])).run Try.prog w = .ok (.pointer (some ⟨w.heap.size, 0, none⟩)) (w.alloc (.cells cs.toArray t)) := by
    unfold Instr.alloc
    simp only [Sem.run_bind, hz w, Result.andThen_ok]
    rfl
  refine wpList_ok (w' := w.alloc (.cells cs.toArray t)) hgd ?_ (h _ (heap_alloc_new w _) ((Below.refl _ _).alloc (Nat.le_refl _) _) (by simp))
  unfold execOp
  simp only [ho, Sem.run_bind, hr, Result.andThen_ok, Sem.run_pure]

/-- A row that came by value, in a block of its own. -/
theorem box_row {w : World} {ops : Array Oper} {rest : List Oper} {o : Oper} {a : Act} {Q : Exit → Act → World → Prop} (hgd : o.guard = none) (t : TypeId) (x : Operand) (cs : List Value) (ho : o.op = .box t x)
    (hx : a.eval x = .agg cs.toArray)
    (h : ∀ w1, RowAt w1 w.heap.size t cs → Below w.heap.size w w1 → w1.heap.size = w.heap.size + 1 → wpList Try.prog ops Q rest (a.put o.dst (.pointer (some ⟨w.heap.size, 0, none⟩))) w1) :
    wpList Try.prog ops Q (o :: rest) a w := by
  have hr : (Instr.box t (.agg cs.toArray)).run Try.prog w = .ok (.pointer (some ⟨w.heap.size, 0, none⟩)) (w.alloc (.cells cs.toArray t)) := rfl
  refine wpList_ok (w' := w.alloc (.cells cs.toArray t)) hgd ?_ (h _ (heap_alloc_new w _) ((Below.refl _ _).alloc (Nat.le_refl _) _) (by simp))
  unfold execOp
  simp only [ho, hx, Sem.run_bind, hr, Result.andThen_ok, Sem.run_pure]

/-- A whole row is stored. -/
theorem store_row {w : World} {ops : Array Oper} {rest : List Oper} {o : Oper} {a : Act} {Q : Exit → Act → World → Prop} (hgd : o.guard = none) (ty : TypeId) (x y : Operand) (ho : o.op = .store ty x y)
    (g : Nat) (t : TypeId) (old cs : List Value) (hx : a.eval x = .pointer (some ⟨g, 0, none⟩)) (hy : a.eval y = .agg cs.toArray) (hg : RowAt w g t old) (hl : old.length = cs.length)
    (hi : (Try.prog.info? ty).map (·.size) = some cs.length) (h1 : ∀ v ∈ cs, v.oneCell' = true)
    (h : ∀ w1, RowAt w1 g t cs → w.grownBy w1 (some g) → w1.heap.size = w.heap.size → wpList Try.prog ops Q rest (a.put o.dst undef) w1) :
    wpList Try.prog ops Q (o :: rest) a w := by
  have hs := run_storeVar_row (P := Try.prog) w g t ty old.toArray cs.toArray hg (by simpa using hi) (by simpa using hl) (all_oneCell_toArray h1)
  refine wpList_skip (w' := w.setRow g cs.toArray) hgd ?_ (h _ (setRow_heap w g old.toArray cs.toArray t (0, 0) hg) ⟨rfl, rfl, rfl, by simp, fun k _ hk => setRow_other w g k _ (fun e => hk (by simp [e]))⟩ (by simp))
  unfold execOp
  simp only [ho, hx, hy, Instr.storeAt, Instr.sureAddr, Sem.run_bind, Sem.run_pure, Result.andThen_ok, hs]

theorem run_load_row {w : World} {ty : TypeId} {g : Nat} {t : TypeId} {cs : List Value} {d : TypeDesc} (hg : RowAt w g t cs) (hu : Try.prog.underlying ty = some d) (hd : d.isRow = true)
    (hi : (Try.prog.info? ty).map (·.size) = some cs.length) : (loadVar ty ⟨g, 0, none⟩).run Try.prog w = .ok (.agg cs.toArray) w :=
  run_loadVar_mid (P := Try.prog) w g 0 ty cs d (fun j v hj => by rw [Nat.zero_add]; exact hg.cell j hj) hu hd hi

/-- A whole row is loaded. -/
theorem load_row {w : World} {ops : Array Oper} {rest : List Oper} {o : Oper} {a : Act} {Q : Exit → Act → World → Prop} (hgd : o.guard = none) (ty : TypeId) (x : Operand) (ho : o.op = .load ty x)
    (g : Nat) (t : TypeId) (cs : List Value) (d : TypeDesc) (hx : a.eval x = .pointer (some ⟨g, 0, none⟩)) (hg : RowAt w g t cs) (hu : Try.prog.underlying ty = some d) (hd : d.isRow = true)
    (hi : (Try.prog.info? ty).map (·.size) = some cs.length)
    (h : wpList Try.prog ops Q rest (a.put o.dst (.agg cs.toArray)) w) :
    wpList Try.prog ops Q (o :: rest) a w := by
  refine wpList_ok hgd ?_ h
  unfold execOp
  simp only [ho, hx, Instr.loadAt, Instr.sureAddr, Sem.run_bind, Sem.run_pure, Result.andThen_ok, run_load_row hg hu hd hi]

/-- Cells in the middle of a block, loaded as a row. -/
theorem load_part {w : World} {ops : Array Oper} {rest : List Oper} {o : Oper} {a : Act} {Q : Exit → Act → World → Prop} (hgd : o.guard = none) (ty : TypeId) (x : Operand) (ho : o.op = .load ty x)
    (b off : Nat) (cs : List Value) (d : TypeDesc) (hx : a.eval x = .pointer (some ⟨b, off, none⟩)) (hc : w.rangeAt b off cs) (hu : Try.prog.underlying ty = some d) (hd : d.isRow = true) (hi : (Try.prog.info? ty).map (·.size) = some cs.length)
    (h : wpList Try.prog ops Q rest (a.put o.dst (.agg cs.toArray)) w) :
    wpList Try.prog ops Q (o :: rest) a w := by
  have hr := run_loadVar_mid (P := Try.prog) w b off ty cs d hc hu hd hi
  refine wpList_ok hgd ?_ h
  unfold execOp
  simp only [ho, hx, Instr.loadAt, Instr.sureAddr, Sem.run_bind, Sem.run_pure, Result.andThen_ok, hr]

theorem RowAt.range {w : World} {g : Nat} {t : TypeId} {cs l m r : List Value} (h : RowAt w g t cs) (hcs : cs = l ++ (m ++ r)) : w.rangeAt g l.length m := fun j v hj => by
  refine h.cell _ ?_
  rw [hcs, List.getElem?_append_right (by omega), show l.length + j - l.length = j from by omega, List.getElem?_append_left (List.getElem?_eq_some_iff.1 hj).1]
  exact hj
/-- 'a[lo:]' of an array of one-cell elements behind a pointer. -/
theorem run_slice_from {ty e : TypeId} {N : Nat} (hu : Try.prog.underlying ty = some (.array N e)) (hs : ∀ W : World, (sizeOf e).run Try.prog W = .ok 1 W) (b off : Nat) (lo : Int) (k : Nat) (hk : lo = (k : Int)) (h : k < N) (W : World) :
    (Instr.sliceAt ty (.pointer (some ⟨b, off, none⟩)) (some (.int .i64 lo)) none none).run Try.prog W = .ok (.slice (some ⟨b, off + k, none⟩) (N - k) (N - k)) W := by
  subst hk
  have hl : Try.prog.arrayLen ty = N := by simp [Program.arrayLen, hu]
  have he : Try.prog.elem ty = e := by simp [Program.elem, hu]
  have h1 := run_sliceAt_array_l (P := Try.prog) W ty ⟨b, off, none⟩ (by rw [hl, he]; exact hu) .i64 (k : Int) (by omega) (by rw [hl]; omega)
  rw [h1, he, hs W, hl]
  have hne : ¬ N = k := by omega
  simp [Result.andThen, slicedAt, hne, Addr.add_lit]
/-- A row, handed back. -/
theorem results_row {fn : Func} {p : Tmp} {ty : TypeId} (h : fn.results = #[.cell p ty]) (tmps : Array Value) (w : World) (g : Nat) (t : TypeId) (cs : List Value) (d : TypeDesc)
    (hp : tmps.getD p undef = .pointer (some ⟨g, 0, none⟩)) (hg : RowAt w g t cs) (hu : Try.prog.underlying ty = some d) (hd : d.isRow = true) (hi : (Try.prog.info? ty).map (·.size) = some cs.length) :
    (results fn tmps).run Try.prog w = .ok (.agg cs.toArray) w := by
  have hp' : tmps[p]?.getD undef = .pointer (some ⟨g, 0, none⟩) := by simpa using hp
  simp [results, h, hp', asAddr, run_load_row hg hu hd hi]
#print axioms load_part
end Go.Proofs.Ytheigemfbcgjcaa
