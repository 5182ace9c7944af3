/-
  The beginning of family: rows of numbers made anew, the struct of the children.
-/
import Derived.Test.YtmenhbdapikpeaaTreeFamM
import Derived.Test.YtmenhbdapikpeaaTreeVis
import Derived.Test.YtmenhbdapikpeaaRefPlacesL
import Derived.Deep.RegionHeld
import Derived.Deep.Cut
import Derived.Deep.CutRange
namespace Go.Proofs.Ytmenhbdapikpeaa
open Go.RowKit

/-- 'make' of so many numbers, in whatever region. -/
theorem wp_makeM {o : Oper} {a : Act} {w : World} {K : Act → World → Prop} {Q : Exit → Act → World → Prop} (x y : Operand) (ho : o.op = Op.makeSlice 27 x y) (n : Nat) (hx : a.eval x = .int .i64 (n : Int)) (hy : a.eval y = .int .i64 (n : Int)) (hn : n ≤ 1000)
    (h : ∀ w', Own1 M 3 w' w.heap.size (.slice (pA w.heap.size) n n) (List.replicate n 1) → w.grownBy w' none → w.heap.size < w'.heap.size → K (a.put o.dst (.slice (pA w.heap.size) n n)) w') : o.wp Try.prog a w K Q := by
  obtain ⟨i0, hi, hz0, hz1, hz2⟩ := info_parts infoM
  obtain ⟨w', hrun, r1, r2⟩ := run_make_full (P := Try.prog) w w.heap.size 27 3 i0 (M 1) 1 Try.underlying27 hi hz0 hz1 .i64 .i64 n (by rw [hz2]; omega) (by unfold maxLen; omega) (Nat.le_refl _)
  have e : (madeCells (M 1).cells (n * 1)).toList = List.replicate n (M 1) := by
    show (madeCells #[M 1] (n * 1)).toList = _
    apply List.ext_getElem
    · simp [madeCells]
    · intro i h3 h4
      simp [madeCells, Nat.mod_one]
  have hO : Own1 M 3 w' w.heap.size (.slice (pA w.heap.size) n n) (List.replicate n 1) := by
    unfold Own1
    rw [List.length_replicate, List.map_replicate, ← e]
    exact r1
  unfold Oper.wp
  simp [execOp, ho, hx, hy, hrun, Result.andThen]
  exact h w' hO r2 (hO.lt w.heap.size rfl).2
abbrev zC : Array Value := #[.int .i64 0, .slice none 0 0, .slice none 0 0]
/-- The struct stored whole. -/
theorem wp_storeC {o : Oper} {a : Act} {w : World} {K : Act → World → Prop} {Q : Exit → Act → World → Prop} (x y : Operand) (ho : o.op = .store 61 x y) (g : Nat) (v0 v1 v2 : Value) (hx : a.eval x = .pointer (pA g)) (hy : a.eval y = .agg #[v0, v1, v2])
    (old : Array Value) (hold : old.size = 3) (hg : w.heap[g]? = some (.cells old 61 (0, 0))) (h1 : v0.oneCell' = true ∧ v1.oneCell' = true ∧ v2.oneCell' = true)
    (h : ∀ w', w'.heap[g]? = some (.cells #[v0, v1, v2] 61 (0, 0)) → w.grownBy w' (some g) → K (a.put o.dst undef) w') : o.wp Try.prog a w K Q := by
  refine wp_store_row 61 x y ho g #[v0, v1, v2] hx hy 61 old hg (by kernel_rfl) hold ?_ (h _ (setRow_heap _ _ old #[v0, v1, v2] _ _ hg) ?_)
  · rw [Array.all_eq_true_iff_forall_mem]
    intro v hv
    simp at hv
    rcases hv with rfl | rfl | rfl
    · exact h1.1
    · exact h1.2.1
    · exact h1.2.2
  · refine ⟨rfl, rfl, rfl, by simp [World.setRow], fun k hk hne => ?_⟩
    unfold World.setRow
    rw [Array.getElem?_modify, if_neg (fun e => hne (by rw [e]))]
theorem alloc_facts (w : World) (cs : Array Value) (T : TypeId) : (w.alloc (.cells cs T)).heap[w.heap.size]? = some (.cells cs T (0, 0)) ∧ w.grownBy (w.alloc (.cells cs T)) none ∧ w.heap.size < (w.alloc (.cells cs T)).heap.size :=
  ⟨heap_alloc_new w _, World.grownBy_alloc w _ none, by simp⟩
theorem blk_none {w w' : World} {g : Nat} {o : Obj} (h : w.heap[g]? = some o) (hg : w.grownBy w' none) : w'.heap[g]? = some o := by
  rw [hg.block g (Array.getElem?_eq_some_iff.1 h).1 (by simp)]; exact h
theorem below_none {w0 w w' : World} (h : Below w0.heap.size w0 w) (hg : w.grownBy w' none) : Below w0.heap.size w0 w' := h.grown hg h.size (fun k hk => by cases hk)
theorem own_none {w w' : World} {base : Nat} {v : Value} {l : List Nat} {g n c : Nat} (h : Own1 M 3 w base v l) (hv : v = .slice (pA g) n c) (hg : w.grownBy w' none) : Own1 M 3 w' base v l := h.kept hg (.inr (by subst hv; simp [Value.ownBlock]))
/-- All three are made: the struct is stored. -/
theorem fam_made {w Wz W' : World} {n gC gF gN : Nat} {bF bN : Nat} (hF : Own1 M 3 Wz bF (.slice (pA gF) n n) (List.replicate n 1)) (hN : Own1 M 3 Wz bN (.slice (pA gN) n n) (List.replicate n 1)) (hbF : w.heap.size ≤ bF) (hbN : w.heap.size ≤ bN) (hC : w.heap.size ≤ gC)
    (hb : Below w.heap.size w Wz) (n1 : gC ≠ gF) (n2 : gC ≠ gN) (n3 : gF ≠ gN) (hc : W'.heap[gC]? = some (.cells #[.int .i64 (-1), .slice (pA gF) n n, .slice (pA gN) n n] 61 (0, 0))) (hg : Wz.grownBy W' (some gC)) :
    FamW w W' n gC gF gN ⟨0, List.replicate n 1, List.replicate n 1⟩ :=
  ⟨hc, (hF.mono hbF).kept hg (.inr (by simpa [Value.ownBlock] using fun e => n1 e.symm)), (hN.mono hbN).kept hg (.inr (by simpa [Value.ownBlock] using fun e => n2 e.symm)), hC, hb.grown hg hb.size (fun k hk => by cases hk; exact hC), n1, n2, n3⟩
#print axioms wp_makeM
#print axioms fam_made
end Go.Proofs.Ytmenhbdapikpeaa
