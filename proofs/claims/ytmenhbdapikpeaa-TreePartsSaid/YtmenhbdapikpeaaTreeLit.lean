/-
  An element put together of its parts; a slice literal of one element.
-/
import Derived.Test.YtmenhbdapikpeaaTreeMem
import Derived.Great.BuildSlice
namespace Go.Proofs.Ytmenhbdapikpeaa
open Go.RowKit

theorem list32 {l : List UInt8} (h : l.length = 32) : ∃ b0 b1 b2 b3 b4 b5 b6 b7 b8 b9 b10 b11 b12 b13 b14 b15 b16 b17 b18 b19 b20 b21 b22 b23 b24 b25 b26 b27 b28 b29 b30 b31, l = [b0, b1, b2, b3, b4, b5, b6, b7, b8, b9, b10, b11, b12, b13, b14, b15, b16, b17, b18, b19, b20, b21, b22, b23, b24, b25, b26, b27, b28, b29, b30, b31] := by
  match l, h with
  | [b0, b1, b2, b3, b4, b5, b6, b7, b8, b9, b10, b11, b12, b13, b14, b15, b16, b17, b18, b19, b20, b21, b22, b23, b24, b25, b26, b27, b28, b29, b30, b31], _ => exact ⟨b0, b1, b2, b3, b4, b5, b6, b7, b8, b9, b10, b11, b12, b13, b14, b15, b16, b17, b18, b19, b20, b21, b22, b23, b24, b25, b26, b27, b28, b29, b30, b31, rfl⟩
theorem built_node (k : KeyV) (hk : k.c.length = 32) (p r : Int) (d : Bool) : Try.prog.built 44 [(0, .agg (keyC k)), (1, .int .i64 p), (2, .int .i32 r), (3, .bool d)] = some (nodeC ⟨k, p, r, d⟩) := by
  obtain ⟨t, c, i⟩ := k
  obtain ⟨b0, b1, b2, b3, b4, b5, b6, b7, b8, b9, b10, b11, b12, b13, b14, b15, b16, b17, b18, b19, b20, b21, b22, b23, b24, b25, b26, b27, b28, b29, b30, b31, rfl⟩ := list32 hk
  kernel_rfl
/-- The literal of an element, in a region that only reads. -/
theorem exec_build {w : World} {o : Oper} {a : Act} (t : TypeId) (parts : Array (Nat × Operand)) (ho : o.op = .build t parts) (cells : Array Value)
    (h : Try.prog.built t (parts.map fun (i, x) => (i, a.eval x)).toList = some cells) : (execOp a.eval o).run Try.prog w = .ok (.value (.agg cells)) w := by
  unfold execOp
  simp only [ho, Sem.run_bind, run_build w t _ cells h, Result.andThen_ok, Sem.run_pure]
/-- .. of four parts. -/
theorem exec_node {w : World} {o : Oper} {a : Act} (x0 x1 x2 x3 : Operand) (ho : o.op = .build 44 #[(0, x0), (1, x1), (2, x2), (3, x3)]) (k : KeyV) (hk : k.c.length = 32) (p r : Int) (d : Bool)
    (h0 : a.eval x0 = .agg (keyC k)) (h1 : a.eval x1 = .int .i64 p) (h2 : a.eval x2 = .int .i32 r) (h3 : a.eval x3 = .bool d) : (execOp a.eval o).run Try.prog w = .ok (.value (.agg (nodeC ⟨k, p, r, d⟩))) w := by
  refine exec_build _ _ ho _ ?_
  have e : (#[(0, x0), (1, x1), (2, x2), (3, x3)].map fun (q : Nat × Operand) => (q.1, a.eval q.2)).toList = [(0, .agg (keyC k)), (1, .int .i64 p), (2, .int .i32 r), (3, .bool d)] := by simp [h0, h1, h2, h3]
  exact (congrArg _ e).trans (built_node k hk p r d)
theorem fill_node (x : NodeV) (hx : NdOk x) (z : Value) (hz : z = .agg (nodeC ⟨⟨0, idZero, 0⟩, 0, 0, false⟩)) : Instr.fill (fun i => some (i * 37, 37)) ((Array.range (1 * 37)).map (z.cells[· % z.cells.size]!)) [(0, .agg (nodeC x))] = some (nodeC x) := by
  subst hz
  obtain ⟨⟨t, c, i⟩, p, r, d⟩ := x
  obtain ⟨b0, b1, b2, b3, b4, b5, b6, b7, b8, b9, b10, b11, b12, b13, b14, b15, b16, b17, b18, b19, b20, b21, b22, b23, b24, b25, b26, b27, b28, b29, b30, b31, rfl⟩ := list32 hx.1
  kernel_rfl
/-- A slice literal of one element. -/
theorem wp_sl_node {T E : TypeId} {by_ : Nat} (hU : Try.prog.underlying T = some (.slice E)) (hI : (Try.prog.info? E).map (fun i => (i.zero, i.size, i.bytes)) = some (some (.agg (nodeC ⟨⟨0, idZero, 0⟩, 0, 0, false⟩)), 37, by_))
    {o : Oper} {a : Act} {w : World} {K : Act → World → Prop} {Q : Exit → Act → World → Prop} (x : Operand) (ho : o.op = .buildSlice T 1 #[(0, x)]) (X : NodeV) (hX : NdOk X) (hx : a.eval x = .agg (nodeC X))
    (h : K (a.put o.dst (.slice (some ⟨w.heap.size, 0, none⟩) 1 1)) (w.alloc (.cells (nodeC X) E))) : o.wp Try.prog a w K Q := by
  obtain ⟨i0, hi, hz0, hz1, hz2⟩ := info_parts hI
  refine wp_buildSlice T E 1 #[(0, x)] ho (nodeC X) i0 _ hU hi hz0 (by rw [hz1]; decide) (by rw [hz1]; decide) ?_ h
  rw [hz1]
  have e : (#[(0, x)].map fun (p : Nat × Operand) => (p.1, a.eval p.2)).toList = [(0, .agg (nodeC X))] := by simp [hx]
  exact (congrArg (Instr.fill (fun i => some (i * 37, 37)) _) e).trans (fill_node X hX _ rfl)
theorem sl_node {T E : TypeId} {by_ : Nat} (hU : Try.prog.underlying T = some (.slice E)) (hI : (Try.prog.info? E).map (fun i => (i.zero, i.size, i.bytes)) = some (some (.agg (nodeC ⟨⟨0, idZero, 0⟩, 0, 0, false⟩)), 37, by_))
    {ops : Array Oper} {rest : List Oper} {o : Oper} {a : Act} {w : World} {Q : Exit → Act → World → Prop} (hg : o.guard = none) (x : Operand) (ho : o.op = .buildSlice T 1 #[(0, x)]) (X : NodeV) (hX : NdOk X) (hx : a.eval x = .agg (nodeC X))
    (h : wpList Try.prog ops Q rest (a.put o.dst (.slice (some ⟨w.heap.size, 0, none⟩) 1 1)) (w.alloc (.cells (nodeC X) E))) : wpList Try.prog ops Q (o :: rest) a w :=
  wpList_plain hg fun _ hK => wp_sl_node hU hI x ho X hX hx (hK _ _ h)
#print axioms sl_node
end Go.Proofs.Ytmenhbdapikpeaa
