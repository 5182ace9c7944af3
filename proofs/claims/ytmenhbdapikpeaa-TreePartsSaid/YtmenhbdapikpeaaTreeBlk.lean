/-
  An element in a block of its own; a whole element loaded and stored.
-/
import Derived.Test.YtmenhbdapikpeaaTreeText
import Derived.Laws.Tables
namespace Go.Proofs.Ytmenhbdapikpeaa
open Go.RowKit

/-- A block that holds an element. -/
def NodeAt (w : World) (g : Nat) (x : NodeV) : Prop := NdOk x ∧ w.heap[g]? = some (.cells (nodeC x) 44 (0, 0))
section
variable {w w' : World} {g : Nat} {x : NodeV}
theorem NodeAt.lt (h : NodeAt w g x) : g < w.heap.size := by
  rcases Nat.lt_or_ge g w.heap.size with h' | h'
  · exact h'
  · have := h.2
    rw [Array.getElem?_eq_none h'] at this; cases this
theorem NodeAt.below (h : NodeAt w g x) (hb : Below w.heap.size w w') : NodeAt w' g x := ⟨h.1, by rw [hb.block g h.lt]; exact h.2⟩
theorem NodeAt.cell (h : NodeAt w g x) (i : Nat) (v : Value) (hv : (nodeL x)[i]? = some v) : w.cell? ⟨g, i, none⟩ = some v := by
  rw [cell_of_row w g i (nodeC x) 44 (0, 0) h.2]
  simpa [nodeC] using hv
theorem NodeAt.key (h : NodeAt w g x) : w.rangeAt g 0 (keyL x.k) := fun i v hv => by
  rw [Nat.zero_add]
  refine h.cell i v ?_
  unfold nodeL
  rw [List.getElem?_append_left (List.getElem?_eq_some_iff.1 hv).1]
  exact hv
theorem NodeAt.par (h : NodeAt w g x) : w.cell? ⟨g, 34, none⟩ = some (.int .i64 x.p) := h.cell 34 _ (by have := keyL_length h.1.1; simp [nodeL, this])
theorem NodeAt.run (h : NodeAt w g x) : w.cell? ⟨g, 35, none⟩ = some (.int .i32 x.r) := h.cell 35 _ (by have := keyL_length h.1.1; simp [nodeL, this])
theorem NodeAt.dead (h : NodeAt w g x) : w.cell? ⟨g, 36, none⟩ = some (.bool x.d) := h.cell 36 _ (by have := keyL_length h.1.1; simp [nodeL, this])
theorem NodeAt.frz (h : NodeAt w g x) (i : Nat) : w.frozen? ⟨g, i, none⟩ = false := Lib.frozen_of_heap h.2 i
end
/-- An operation that only reads, plain. -/
theorem wl_ex {w : World} {ops : Array Oper} {rest : List Oper} {o : Oper} {a : Act} {Q : Exit → Act → World → Prop} {v : Value} (hw : Region.wanted o (yielded ops a.tmps) = true) (hr : (execOp a.eval o).run Try.prog w = .ok (.value v) w)
    (h : wpList Try.prog ops Q rest (a.put o.dst v) w) : wpList Try.prog ops Q (o :: rest) a w := by
  unfold wpList
  rw [if_pos hw]
  refine .inl ?_
  unfold Oper.wp
  rw [hr]
  exact h
theorem info37 : (Try.prog.info? 44).map (·.size) = some 37 := by kernel_rfl
theorem exec_loadNode {w : World} {o : Oper} {a : Act} (x : Operand) (ho : o.op = .load 44 x) (b off : Nat) (X : NodeV) (hX : NdOk X) (hx : a.eval x = .pointer (some ⟨b, off, none⟩)) (hc : w.rangeAt b off (nodeL X)) :
    (execOp a.eval o).run Try.prog w = .ok (.value (.agg (nodeC X))) w := by
  have hr := run_loadVar_mid (P := Try.prog) w b off 44 (nodeL X) _ hc Try.underlying44 rfl (by rw [nodeL_length hX]; exact info37)
  unfold execOp
  simp only [ho, hx, Instr.loadAt, Instr.sureAddr, Sem.run_bind, Sem.run_pure, Result.andThen_ok, hr]
  rfl
/-- A whole element stored into a block that was made just now. -/
theorem store_node {w : World} {cs : Array Value} (hcs : cs.size = 37) {ops : Array Oper} {rest : List Oper} {o : Oper} {a : Act} {Q : Exit → Act → World → Prop} (hgd : o.guard = none) (x y : Operand) (ho : o.op = .store 44 x y)
    (X : NodeV) (hX : NdOk X) (hx : a.eval x = .pointer (some ⟨w.heap.size, 0, none⟩)) (hy : a.eval y = .agg (nodeC X))
    (h : ∀ W, NodeAt W w.heap.size X → Below w.heap.size w W → W.heap.size = w.heap.size + 1 → wpList Try.prog ops Q rest (a.put o.dst undef) W) : wpList Try.prog ops Q (o :: rest) a (w.alloc (.cells cs 44)) := by
  have h37 : (nodeC X).size = 37 := by have := nodeL_length hX; simpa [nodeC] using this
  have hg := heap_alloc_new w (.cells cs 44)
  refine wpList_store_row hgd 44 x y ho w.heap.size (nodeC X) hx hy 44 cs hg (by rw [h37]; exact info37) (by rw [h37, hcs]) ?_ (h _ ⟨hX, setRow_heap _ _ cs (nodeC X) _ _ hg⟩ ?_ ?_)
  · rw [Array.all_eq_true_iff_forall_mem]
    intro v hv
    have : v ∈ nflat [X] := by unfold nflat; simpa [nodeC] using hv
    exact nflat_one [X] v this
  · refine ⟨rfl, rfl, rfl, by simp [World.setRow], fun k hk => ?_⟩
    unfold World.setRow
    rw [Array.getElem?_modify, if_neg (by omega)]
    exact heap_alloc_old (h := hk) ..
  · simp [World.setRow]
#print axioms store_node
end Go.Proofs.Ytmenhbdapikpeaa
