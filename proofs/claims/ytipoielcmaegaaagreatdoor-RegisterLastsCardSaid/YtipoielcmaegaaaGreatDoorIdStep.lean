/-
  Steps of a region that draws its order, where ids are loaded and compared.
-/
import Derived.Test.YtipoielcmaegaaaGreatDoorIdList
import Derived.Deep.QuietTactic
import Derived.BigQuiet
import Derived.WalkSmall
import Derived.Deep.LoopGhost
namespace Go.Proofs.YtipoielcmaegaaaGreatDoor
open Go.RowKit

theorem still_w {P : Program} {ops : Array Oper} {w : World} {Q : Act → Prop} {o : Oper} {rest : List Oper} {a : Act} {v : Value} (hw : Region.wanted o (yielded ops a.tmps) = true)
    (hr : (execOp a.eval o).run P w = .ok (.value v) w) (h : wpStill P ops w Q rest (a.put o.dst v)) : wpStill P ops w Q (o :: rest) a := by
  unfold wpStill
  rw [if_pos hw]
  unfold Oper.still
  rw [hr, Oper.stillUpon_value]
  exact h

theorem still_skip {P : Program} {ops : Array Oper} {w : World} {Q : Act → Prop} {o : Oper} {rest : List Oper} {a : Act} (hw : Region.wanted o (yielded ops a.tmps) = false)
    (h : wpStill P ops w Q rest (a.put o.dst undef)) : wpStill P ops w Q (o :: rest) a := by
  unfold wpStill
  rw [if_neg (by rw [hw]; simp)]
  exact h

theorem exec_move {P : Program} {w : World} {o : Oper} {a : Act} (x : Operand) (ho : o.op = .move x) (v : Value) (hx : a.eval x = v) : (execOp a.eval o).run P w = .ok (.value v) w := by
  unfold execOp
  simp only [ho, hx, Sem.run_pure]

theorem run_loadId {w : World} {b off : Nat} {l : List UInt8} (hl : l.length = 32) (hc : w.rangeAt b off (l.map B)) : (loadVar 33 ⟨b, off, none⟩).run Tryz.prog w = .ok (.agg (idCells l)) w :=
  run_loadVar_mid (P := Tryz.prog) w b off 33 (l.map B) _ hc Tryz.underlying33 rfl (by rw [List.length_map, hl]; exact info_id)

theorem exec_loadId {w : World} {o : Oper} {a : Act} (x : Operand) (ho : o.op = .load 33 x) (b off : Nat) (l : List UInt8) (hl : l.length = 32) (hx : a.eval x = .pointer (some ⟨b, off, none⟩)) (hc : w.rangeAt b off (l.map B)) :
    (execOp a.eval o).run Tryz.prog w = .ok (.value (.agg (idCells l))) w := by
  unfold execOp
  simp only [ho, hx, Instr.loadAt, Instr.sureAddr, Sem.run_bind, Sem.run_pure, Result.andThen_ok, run_loadId hl hc]

theorem exec_eqlId {w : World} {o : Oper} {a : Act} (x y : Operand) (r : TypeId) (ho : o.op = .binOp .eql 33 x y r) (l k : List UInt8) (hl : l.length = 32) (hk : k.length = 32) (hx : a.eval x = .agg (idCells l)) (hy : a.eval y = .agg (idCells k)) :
    (execOp a.eval o).run Tryz.prog w = .ok (.value (.bool (decide (l = k)))) w := by
  unfold execOp
  simp only [ho, hx, hy, Sem.run_bind, run_eqGuard_agg w _ _ _ _ _ _ noGuard_id, Result.andThen_ok, run_eql_struct, run_eqIds w hl hk, Sem.run_pure]

theorem exec_neqId {w : World} {o : Oper} {a : Act} (x y : Operand) (r : TypeId) (ho : o.op = .binOp .neq 33 x y r) (l k : List UInt8) (hl : l.length = 32) (hk : k.length = 32) (hx : a.eval x = .agg (idCells l)) (hy : a.eval y = .agg (idCells k)) :
    (execOp a.eval o).run Tryz.prog w = .ok (.value (.bool (!decide (l = k)))) w := by
  unfold execOp
  simp only [ho, hx, hy, Sem.run_bind, run_eqGuard_agg w _ _ _ _ _ _ noGuard_id, Result.andThen_ok, run_neq_struct, run_eqIds w hl hk, Sem.run_pure]

/-- The load of an id, plain. -/
theorem wl_load {w : World} {ops : Array Oper} {rest : List Oper} {o : Oper} {a : Act} {Q : Exit → Act → World → Prop} (hw : Region.wanted o (yielded ops a.tmps) = true) (x : Operand) (ho : o.op = .load 33 x)
    (b off : Nat) (l : List UInt8) (hl : l.length = 32) (hx : a.eval x = .pointer (some ⟨b, off, none⟩)) (hc : w.rangeAt b off (l.map B))
    (h : wpList Tryz.prog ops Q rest (a.put o.dst (.agg (idCells l))) w) : wpList Tryz.prog ops Q (o :: rest) a w := by
  unfold wpList
  rw [if_pos hw]
  exact .inl (by unfold Oper.wp; rw [exec_loadId x ho b off l hl hx hc]; exact h)

theorem IdAt.range {w : World} {g : Nat} {l : List UInt8} (h : IdAt w g l) : w.rangeAt g 0 (l.map B) := fun j v hj => by
  rw [List.getElem?_map] at hj
  have hjl : j < l.length := by
    rcases Nat.lt_or_ge j l.length with h | h
    · exact h
    · rw [List.getElem?_eq_none h] at hj; cases hj
  simp only [List.getElem?_eq_getElem hjl, Option.map_some, Option.some.injEq] at hj
  subst hj
  rw [Nat.zero_add, h.cell j (by have := h.1; omega)]
  simp [hjl]

theorem take_next_ids {l m : List (List UInt8)} {j : Nat} (h : l.take j = m.take j) (hl : j < l.length) (hm : j < m.length) (he : l.getD j [] = m.getD j []) : l.take (j + 1) = m.take (j + 1) := by
  rw [List.take_succ_eq_append_getElem hl, List.take_succ_eq_append_getElem hm, h]
  simp [hl, hm] at he
  rw [he]
theorem ne_of_ids {l m : List (List UInt8)} {j : Nat} (he : l.getD j [] ≠ m.getD j []) : l ≠ m := fun h => he (by rw [h])
theorem boolR {a b : Bool} (h : a = b) : Ending.returned (.bool a) = .returned (.bool b) := by rw [h]

end Go.Proofs.YtipoielcmaegaaaGreatDoor
