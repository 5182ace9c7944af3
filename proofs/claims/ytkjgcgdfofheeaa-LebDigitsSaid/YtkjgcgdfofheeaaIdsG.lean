/-
  Ids behind a guard: one that is loaded, two that are alike, a call behind a guard.
-/
import Derived.Test.YtkjgcgdfofheeaaIds
namespace Go.Proofs.Ytkjgcgdfofheeaa
open Go.RowKit

theorem wpList_guardG {P : Program} {w w' : World} {ops : Array Oper} {rest : List Oper} {o : Oper} {a : Act} {Q : Exit → Act → World → Prop} {v : Value} (hw : Region.wanted o (yielded ops a.tmps) = true)
    (hr : (execOp a.eval o).run P w = .ok (.value v) w') (h : wpList P ops Q rest (a.put o.dst v) w') : wpList P ops Q (o :: rest) a w := by
  unfold wpList
  rw [if_pos hw]
  exact .inl (by unfold Oper.wp; rw [hr]; exact h)

theorem load_idG {w : World} {ops : Array Oper} {rest : List Oper} {o : Oper} {a : Act} {Q : Exit → Act → World → Prop} (hw : Region.wanted o (yielded ops a.tmps) = true) (x : Operand) (ho : o.op = .load 41 x)
    (g : Nat) (l : List UInt8) (hx : a.eval x = .pointer (some ⟨g, 0, none⟩)) (hg : IdAt w g l)
    (h : wpList Try.prog ops Q rest (a.put o.dst (.agg (idCells l))) w) :
    wpList Try.prog ops Q (o :: rest) a w := by
  refine wpList_guardG hw ?_ h
  unfold execOp
  simp only [ho, hx, Instr.loadAt, Instr.sureAddr, Sem.run_bind, Sem.run_pure, Result.andThen_ok, run_load_id hg]

theorem eql_idG {w : World} {ops : Array Oper} {rest : List Oper} {o : Oper} {a : Act} {Q : Exit → Act → World → Prop} (hw : Region.wanted o (yielded ops a.tmps) = true) (x y : Operand) (r : TypeId) (ho : o.op = .binOp .eql 41 x y r)
    (l : List UInt8) (hl : l.length = 32) (hx : a.eval x = .agg (idCells l)) (hy : a.eval y = .agg (idCells l))
    (h : wpList Try.prog ops Q rest (a.put o.dst (.bool true)) w) :
    wpList Try.prog ops Q (o :: rest) a w := by
  refine wpList_guardG hw ?_ h
  unfold execOp
  simp only [ho, hx, hy, Sem.run_bind, run_eqGuard_agg w _ _ _ _ _ _ noGuard_id, Result.andThen_ok, run_eql_struct, run_eq_id w hl, Sem.run_pure]

end Go.Proofs.Ytkjgcgdfofheeaa
