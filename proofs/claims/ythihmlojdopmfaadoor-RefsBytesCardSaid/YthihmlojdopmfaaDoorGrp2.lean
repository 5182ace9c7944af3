/-
  Merged: Ids, IdCells.
-/
import Derived.Test.YthihmlojdopmfaaDoorGrp1
import Derived.Deep.MidRow
import Derived.ChangeKeysEq
import Derived.Laws.StructEq
import Derived.Test.YthihmlojdopmfaaDoorOpen0
namespace Go.Proofs.YthihmlojdopmfaaDoor
open Go.RowKit

def idCells (l : List UInt8) : Array Value := (l.map B).toArray

def idZero : List UInt8 := List.replicate 32 0

def IdAt (w : World) (g : Nat) (l : List UInt8) : Prop := l.length = 32 ∧ w.heap[g]? = some (.cells (idCells l) 24 (0, 0))

theorem wpList_ok {P : Program} {w w' : World} {ops : Array Oper} {rest : List Oper} {o : Oper} {a : Act} {Q : Exit → Act → World → Prop} {v : Value} (hgd : o.guard = none)
  (hr : (execOp a.eval o).run P w = .ok (.value v) w') (h : wpList P ops Q rest (a.put o.dst v) w') : wpList P ops Q (o :: rest) a w :=
 wpList_plain hgd fun K hK => by unfold Oper.wp; rw [hr]; exact hK _ _ h

theorem wpList_skip {P : Program} {w w' : World} {ops : Array Oper} {rest : List Oper} {o : Oper} {a : Act} {Q : Exit → Act → World → Prop} (hgd : o.guard = none)
  (hr : (execOp a.eval o).run P w = .ok .skip w') (h : wpList P ops Q rest (a.put o.dst undef) w') : wpList P ops Q (o :: rest) a w :=
 wpList_plain hgd fun K hK => by unfold Oper.wp; rw [hr]; exact hK _ _ h

theorem idCells_size {l : List UInt8} (h : l.length = 32) : (idCells l).size = 32 := by simp [idCells, h]
theorem idZero_length : idZero.length = 32 := by simp [idZero]

theorem run_zero_id (w : World) : (zeroValue 24).run Tryd.prog w = .ok (.agg (idCells idZero)) w := by kernel_rfl

theorem run_alloc_id (w : World) : (Instr.alloc 24 true (.tuple #[])).run Tryd.prog w = .ok (.pointer (some ⟨w.heap.size, 0, none⟩)) (w.alloc (.cells (idCells idZero) 24)) := by
 have h := run_zero_id w
 unfold Instr.alloc
 simp only [Sem.run_bind, h, Result.andThen_ok]
 rfl

theorem alloc_id {w : World} {ops : Array Oper} {rest : List Oper} {o : Oper} {a : Act} {Q : Exit → Act → World → Prop} (hgd : o.guard = none) (ho : o.op = .alloc 24)
  (h : ∀ w1, IdAt w1 w.heap.size idZero → Below w.heap.size w w1 → w1.heap.size = w.heap.size + 1 → wpList Tryd.prog ops Q rest (a.put o.dst (.pointer (some ⟨w.heap.size, 0, none⟩))) w1) :
  wpList Tryd.prog ops Q (o :: rest) a w := by
 refine wpList_ok (w' := w.alloc (.cells (idCells idZero) 24)) hgd ?_ (h _ ⟨idZero_length, heap_alloc_new w _⟩ ((Below.refl _ _).alloc (Nat.le_refl _) _) (by simp))
 unfold execOp
 simp only [ho, Sem.run_bind, run_alloc_id, Result.andThen_ok, Sem.run_pure]

theorem info_id : (Tryd.prog.info? 24).map (·.size) = some 32 := by kernel_rfl

theorem store_id {w : World} {ops : Array Oper} {rest : List Oper} {o : Oper} {a : Act} {Q : Exit → Act → World → Prop} (hgd : o.guard = none) (x y : Operand) (ho : o.op = .store 24 x y)
  (g : Nat) (l m : List UInt8) (hx : a.eval x = .pointer (some ⟨g, 0, none⟩)) (hy : a.eval y = .agg (idCells m)) (hg : IdAt w g l) (hm : m.length = 32)
  (h : ∀ w1, IdAt w1 g m → w.grownBy w1 (some g) → w1.heap.size = w.heap.size → wpList Tryd.prog ops Q rest (a.put o.dst undef) w1) :
  wpList Tryd.prog ops Q (o :: rest) a w := by
 have hs := run_storeVar_row (P := Tryd.prog) w g 24 24 (idCells l) (idCells m) hg.2 (by rw [idCells_size hm]; exact info_id) (by rw [idCells_size hm, idCells_size hg.1])
  (by unfold idCells; exact all_oneCell_toArray (fun v hv => by obtain ⟨x, _, rfl⟩ := List.mem_map.1 hv; rfl))
 refine wpList_skip (w' := w.setRow g (idCells m)) hgd ?_ (h _ ⟨hm, setRow_heap w g (idCells l) (idCells m) 24 (0, 0) hg.2⟩ ⟨rfl, rfl, rfl, by simp, fun k _ hk => setRow_other w g k _ (fun e => hk (by simp [e]))⟩ (by simp))
 unfold execOp
 simp only [ho, hx, hy, Instr.storeAt, Instr.sureAddr, Sem.run_bind, Sem.run_pure, Result.andThen_ok, hs]

theorem run_load_id {w : World} {g : Nat} {l : List UInt8} (hg : IdAt w g l) : (loadVar 24 ⟨g, 0, none⟩).run Tryd.prog w = .ok (.agg (idCells l)) w :=
 run_loadVar_row (P := Tryd.prog) w g 24 24 (idCells l) (0, 0) _ hg.2 Tryd.underlying24 rfl (by rw [idCells_size hg.1]; exact info_id)

theorem load_id {w : World} {ops : Array Oper} {rest : List Oper} {o : Oper} {a : Act} {Q : Exit → Act → World → Prop} (hgd : o.guard = none) (x : Operand) (ho : o.op = .load 24 x)
  (g : Nat) (l : List UInt8) (hx : a.eval x = .pointer (some ⟨g, 0, none⟩)) (hg : IdAt w g l)
  (h : wpList Tryd.prog ops Q rest (a.put o.dst (.agg (idCells l))) w) :
  wpList Tryd.prog ops Q (o :: rest) a w := by
 refine wpList_ok hgd ?_ h
 unfold execOp
 simp only [ho, hx, Instr.loadAt, Instr.sureAddr, Sem.run_bind, Sem.run_pure, Result.andThen_ok, run_load_id hg]

theorem load_mid {w : World} {ops : Array Oper} {rest : List Oper} {o : Oper} {a : Act} {Q : Exit → Act → World → Prop} (hgd : o.guard = none) (x : Operand) (ho : o.op = .load 24 x)
  (b off : Nat) (l : List UInt8) (hx : a.eval x = .pointer (some ⟨b, off, none⟩)) (hl : l.length = 32) (hc : ∀ j, j < 32 → w.cell? ⟨b, off + j, none⟩ = some (.int .u8 ((l.getD j 0).toNat : Int)))
  (h : wpList Tryd.prog ops Q rest (a.put o.dst (.agg (idCells l))) w) :
  wpList Tryd.prog ops Q (o :: rest) a w := by
 have hr := run_loadVar_mid (P := Tryd.prog) w b off 24 (l.map B) _ (fun j v hj => by
  rw [List.getElem?_map] at hj
  have hjl : j < l.length := by
   rcases Nat.lt_or_ge j l.length with h | h
   ·exact h
   ·rw [List.getElem?_eq_none h] at hj; cases hj
  simp only [List.getElem?_eq_getElem hjl, Option.map_some, Option.some.injEq] at hj
  subst hj
  rw [hc j (by omega)]
  simp [B, hjl]) Tryd.underlying24 rfl (by simp only [List.length_map, hl]; exact info_id)
 refine wpList_ok hgd ?_ h
 unfold execOp
 simp only [ho, hx, Instr.loadAt, Instr.sureAddr, Sem.run_bind, Sem.run_pure, Result.andThen_ok, hr]
 rfl

theorem noGuard_id : Tryd.prog.eqGuardType Tryd.prog.depth 24 = false := by kernel_rfl

theorem run_build_id (w : World) : (Instr.build 24 #[]).run Tryd.prog w = .ok (.agg (idCells idZero)) w := by kernel_rfl

theorem build_id {w : World} {ops : Array Oper} {rest : List Oper} {o : Oper} {a : Act} {Q : Exit → Act → World → Prop} (hgd : o.guard = none) (ho : o.op = .build 24 #[])
  (h : wpList Tryd.prog ops Q rest (a.put o.dst (.agg (idCells idZero))) w) : wpList Tryd.prog ops Q (o :: rest) a w := by
 refine wpList_ok hgd ?_ h
 unfold execOp
 simp only [ho, List.map_toArray, List.map_nil, Sem.run_bind, Sem.run_pure]
 rw [run_build_id]
 rfl

theorem results_id3 {fn : Func} {p t u : Tmp} (h : fn.results = #[.cell p 24, .tmp t, .tmp u]) (tmps : Array Value) (w : World) (g : Nat) (l : List UInt8)
  (hp : tmps.getD p undef = .pointer (some ⟨g, 0, none⟩)) (hg : IdAt w g l) :
  (results fn tmps).run Tryd.prog w = .ok (.tuple #[.agg (idCells l), tmps.getD t undef, tmps.getD u undef]) w := by
 have hp' : tmps[p]?.getD undef = .pointer (some ⟨g, 0, none⟩) := by simpa using hp
 simp [results, h, hp', asAddr, run_load_id hg]

theorem results_id2 {fn : Func} {p t : Tmp} (h : fn.results = #[.cell p 24, .tmp t]) (tmps : Array Value) (w : World) (g : Nat) (l : List UInt8)
  (hp : tmps.getD p undef = .pointer (some ⟨g, 0, none⟩)) (hg : IdAt w g l) :
  (results fn tmps).run Tryd.prog w = .ok (.tuple #[.agg (idCells l), tmps.getD t undef]) w := by
 have hp' : tmps[p]?.getD undef = .pointer (some ⟨g, 0, none⟩) := by simpa using hp
 simp [results, h, hp', asAddr, run_load_id hg]

theorem Bytes.cells {w : World} {b off n c : Nat} {l : List UInt8} (h : Bytes w (some ⟨b, off, none⟩) n c l) : ∀ j, j < n → w.cell? ⟨b, off + j, none⟩ = some (.int .u8 ((l.getD j 0).toNat : Int)) := by
 intro j hj
 rcases h.2.2.2 with ⟨h0, _⟩ | ⟨b', off', ha, hc⟩
 ·omega
 ·simp only [Option.some.injEq, Addr.mk.injEq, and_true] at ha
  obtain ⟨rfl, rfl⟩ := ha
  exact hc j hj

theorem IdAt.lt {w : World} {g : Nat} {l : List UInt8} (h : IdAt w g l) : g < w.heap.size := by
 rcases Nat.lt_or_ge g w.heap.size with h' | h'
 ·exact h'
 ·have := h.2
  rw [Array.getElem?_eq_none h'] at this; cases this

theorem IdAt.cell {w : World} {g : Nat} {l : List UInt8} (h : IdAt w g l) (j : Nat) (hj : j < 32) : w.cell? ⟨g, j, none⟩ = some (B (l.getD j 0)) := by
 rw [cell_of_row w g j (idCells l) 24 (0, 0) h.2]
 have : j < l.length := by rw [h.1]; exact hj
 simp [idCells, this]

theorem IdAt.free {w : World} {g : Nat} {l : List UInt8} (h : IdAt w g l) (j : Nat) : w.frozen? ⟨g, j, none⟩ = false := frozen_of_row w g j (idCells l) 24 h.2

theorem IdAt.set {w : World} {g : Nat} {l : List UInt8} (h : IdAt w g l) (j : Nat) (x : UInt8) : IdAt (w.setCell ⟨g, j, none⟩ (B x)) g (l.set j x) := by
 refine ⟨by rw [List.length_set]; exact h.1, ?_⟩
 rw [heap_setCell_same w g j (idCells l) 24 (B x) h.2]
 congr 2
 unfold idCells
 rw [List.map_set]
 simp

theorem IdAt.below {w w' : World} {g : Nat} {l : List UInt8} (h : IdAt w g l) (hb : Below w.heap.size w w') : IdAt w' g l := ⟨h.1, by rw [hb.block g h.lt]; exact h.2⟩

theorem IdAt.other {w : World} {g : Nat} {l : List UInt8} (h : IdAt w g l) {a : Addr} (ha : g ≠ a.block) (v : Value) : IdAt (w.setCell a v) g l := ⟨h.1, by rw [heap_setCell_other w a g v ha]; exact h.2⟩

theorem IdAt.grown {w w' : World} {g : Nat} {l : List UInt8} {row : Option Nat} (h : IdAt w g l) (hg : w.grownBy w' row) (hr : some g ≠ row) : IdAt w' g l := ⟨h.1, by rw [hg.block g h.lt hr]; exact h.2⟩

theorem take_set_next {m l : List UInt8} {j : Nat} {x : UInt8} (h : m.take j = l.take j) (hm : j < m.length) (hl : j < l.length) (hx : x = l.getD j 0) : (m.set j x).take (j + 1) = l.take (j + 1) := by
 rw [List.take_succ_eq_append_getElem (by simpa using hm), List.take_succ_eq_append_getElem hl, List.take_set_of_le (Nat.le_refl _), h]
 simp [hx, hl]

def getD_ (l : List UInt8) (at_ : Int) : List UInt8 × Nat × Nat :=
 if at_ < 0 ∨ (l.length : Int) < at_ then (idZero, 0, 1) else if (l.length : Int) - at_ < 32 then (idZero, 0, 6) else ((l.drop at_.toNat).take 32, at_.toNat + 32, 0)

def IdIs (r : List UInt8 × Nat × Nat) (w : World) (e : Ending) (w' : World) : Prop :=
 e = .returned (.tuple #[.agg (idCells r.1), .int .i64 r.2.1, .int .i64 r.2.2]) ∧ Below w.heap.size w w'

theorem getD_length (l : List UInt8) (at_ : Int) : (getD_ l at_).1.length = 32 := by
 unfold getD_
 split
 ·exact idZero_length
 ·split
  ·exact idZero_length
  ·simp; omega

end Go.Proofs.YthihmlojdopmfaaDoor

namespace Go.Proofs.YthihmlojdopmfaaDoor
open Go.ChangeShapes Go.WideShapes Go.ChangeAt Go.RowKit

theorem byte_cells {cs : List Value} (h : ∀ i, i < cs.length → ∃ z : Int, cs[i]? = some (.int .u8 z) ∧ (Lit.int .u8 z).wf = true) : ∃ l : List UInt8, l.length = cs.length ∧ cs = l.map B := by
 induction cs with
 | nil => exact ⟨[], rfl, rfl⟩
 | cons c r ih =>
  obtain ⟨l, hl, hr⟩ := ih (fun i hi => by have := h (i + 1) (by simp; omega); simpa using this)
  obtain ⟨z, hz, hw⟩ := h 0 (by simp)
  have hb : 0 ≤ z ∧ z ≤ 255 := by simpa [Lit.wf, IntKind.min, IntKind.max, IntKind.signed, IntKind.bits] using hw
  simp only [List.getElem?_cons_zero, Option.some.injEq] at hz
  refine ⟨UInt8.ofNat z.toNat :: l, by simp [hl], ?_⟩
  rw [List.map_cons, hz, ← hr]
  congr 1
  simp only [B, UInt8.toNat_ofNat']
  congr 1
  omega

theorem id_cells {H : Type} {enc : TypeId × Value → H} {W : World} {fuel : Nat} {cs : List Value} {x : DataW H × List MemPlace}
  (h : DataW.trod enc Tryd.prog W 0 (fun _ => true) true fuel 24 cs = some x) : ∃ l : List UInt8, l.length = 32 ∧ cs = l.map B := by
 obtain ⟨xs, m, _, _, hl, _, hi⟩ := DataW.trod_array Tryd.underlying24 h
 have h32 : Tryd.prog.cellsOf 24 = 32 := by kernel_rfl
 have h1 : Tryd.prog.cellsOf 5 = 1 := by kernel_rfl
 rw [h32] at hl
 rw [h1] at hi
 obtain ⟨l, h2, h3⟩ := byte_cells (cs := cs) (fun i hi' => by
  have := hi i (by omega)
  rw [Nat.mul_one, List.drop_eq_getElem_cons hi', List.take_succ_cons, List.take_zero] at this
  cases hx : xs[i]? with
  | none => rw [List.getElem?_eq_none_iff] at hx; omega
  | some y =>
   rw [hx] at this
   obtain ⟨z, hz, _, hw⟩ := DataW.trod_int Tryd.underlying5 this
   simp only [List.cons.injEq, and_true] at hz
   exact ⟨z, by rw [List.getElem?_eq_getElem hi', hz], hw⟩)
 exact ⟨l, by omega, h3⟩

end Go.Proofs.YthihmlojdopmfaaDoor
