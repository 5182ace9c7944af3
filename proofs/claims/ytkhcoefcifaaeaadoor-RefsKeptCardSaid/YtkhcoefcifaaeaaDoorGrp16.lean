/-
  Merged: IdFind, OrdKeys, OrdKey, OrdKeysW, OrdAwake, OrdFinds, OrdIn.
-/
import Derived.Test.YtkhcoefcifaaeaaDoorGrp9
import Derived.Deep.RegionHeld
import Derived.Test.YtkhcoefcifaaeaaDoorGrp15
namespace Go.Proofs.YtkhcoefcifaaeaaDoor
open Go.RowKit

/-- What Find answers. -/
def findIF (l : List (List UInt8)) (x : List UInt8) : Nat × Bool := if isSetF l = true then (aheadF l x, decide (x ∈ l)) else (0, false)
def FindIs (r : Nat × Bool) (w : World) (e : Ending) (w' : World) : Prop := e = .returned (.tuple #[.int .i64 r.1, .bool r.2]) ∧ Below w.heap.size w w'
theorem FindIs.mk {r : Nat × Bool} {z : Int} {b : Bool} {w w' : World} (h1 : z = (r.1 : Int)) (h2 : b = r.2) (hb : Below w.heap.size w w') : FindIs r w (.returned (.tuple #[.int .i64 z, .bool b])) w' := by
  subst h1 h2; exact ⟨rfl, hb⟩

theorem findF_no {l : List (List UInt8)} {x : List UInt8} (h : isSetF l = false) : findIF l x = (0, false) := by unfold findIF; rw [if_neg (by simp [h])]
theorem findF_yes {l : List (List UInt8)} {x : List UInt8} (h : isSetF l = true) : findIF l x = (aheadF l x, decide (x ∈ l)) := by unfold findIF; rw [if_pos h]

/-- All ahead of a place stand ahead; none from a place on does. -/
def Lows (l : List (List UInt8)) (x : List UInt8) (j : Nat) : Prop := ∀ i, i < j → cmpF (l.getD i []) x < 0
def Highs (l : List (List UInt8)) (x : List UInt8) (j : Nat) : Prop := ∀ i, j ≤ i → i < l.length → 0 ≤ cmpF (l.getD i []) x

theorem set_lt {l : List (List UInt8)} (h : SetF l) {i j : Nat} (hij : i < j) (hj : j < l.length) : cmpF (l.getD i []) (l.getD j []) < 0 := by
  have := List.pairwise_iff_getElem.1 h i j (by omega) hj hij
  simpa [show i < l.length by omega, hj] using this
theorem lows_of {l : List (List UInt8)} (h : SetF l) {x : List UInt8} {m : Nat} (hm : m < l.length) (hc : cmpF (l.getD m []) x < 0) : Lows l x (m + 1) := fun i hi => by
  rcases Nat.lt_or_ge i m with h1 | h1
  · exact cmpF_lt_trans (set_lt h h1 hm) hc
  · obtain rfl : i = m := by omega
    exact hc
theorem highs_of {l : List (List UInt8)} (h : SetF l) {x : List UInt8} {m : Nat} (hm : m < l.length) (hc : 0 ≤ cmpF (l.getD m []) x) : Highs l x m := fun i hi hil => by
  rcases Nat.lt_or_ge m i with h1 | h1
  · have h2 := set_lt h h1 hil
    rcases Int.lt_or_le (cmpF (l.getD i []) x) 0 with h3 | h3
    · have := cmpF_lt_trans h2 h3
      omega
    · exact h3
  · obtain rfl : i = m := by omega
    exact hc
theorem place_of {l : List (List UInt8)} {x : List UInt8} {j : Nat} (hj : j ≤ l.length) (h1 : Lows l x j) (h2 : Highs l x j) : aheadF l x = j :=
  (aheadF_of hj h1 (fun h => h2 j (Nat.le_refl _) h)).symm
theorem there_of {l : List (List UInt8)} (h : SetF l) {x : List UInt8} {j : Nat} (hp : aheadF l x = j) (hj : j < l.length) : decide (x ∈ l) = decide (l.getD j [] = x) := by
  rw [decide_eq_decide, mem_at h x, hp]
  exact ⟨fun h => h.2, fun h => ⟨hj, h⟩⟩
theorem none_ofI {l : List (List UInt8)} (h : SetF l) {x : List UInt8} {j : Nat} (hp : aheadF l x = j) (hj : l.length ≤ j) : decide (x ∈ l) = false := by
  rw [decide_eq_false_iff_not, mem_at h x, hp]
  omega

end Go.Proofs.YtkhcoefcifaaeaaDoor

namespace Go.Proofs.YtkhcoefcifaaeaaDoor
open Go.RowKit

/-- Which of two numbers stands ahead. -/
def intF (a b : Int) : Int := if a < b then -1 else if b < a then 1 else 0

/-- The first of three that is not 0. -/
def orF (x y z : Int) : Int := if x ≠ 0 then x else if y ≠ 0 then y else z

end Go.Proofs.YtkhcoefcifaaeaaDoor

namespace Go.Proofs.YtkhcoefcifaaeaaDoor
open Go.RowKit

/-- A key's cells. -/
def keyL (k : KeyV) : List Value := .int .i64 k.t :: (k.c.map B ++ [.int .i64 k.i])
def keyC (k : KeyV) : Array Value := (keyL k).toArray
theorem keyL_length {k : KeyV} (h : k.c.length = 32) : (keyL k).length = 34 := by simp [keyL, h]

def KeyIs (a b : KeyV) (w : World) (e : Ending) (w' : World) : Prop := e = .returned (.int .i64 (keyF a b)) ∧ Below w.heap.size w w'

theorem keyF_or (a b : KeyV) : keyF a b = orF (intF a.t b.t) (cmpF a.c b.c) (intF a.i b.i) := by
  unfold keyF orF intF
  repeat' split
  all_goals first | rfl | omega | simp_all

end Go.Proofs.YtkhcoefcifaaeaaDoor

namespace Go.Proofs.YtkhcoefcifaaeaaDoor
open Go.RowKit

theorem cells3 (w : World) (x y z : Int) : (w.alloc (.cells #[.int .i64 x, .int .i64 y, .int .i64 z] 3)).cell? ⟨w.heap.size, 0, none⟩ = some (.int .i64 x) ∧ (w.alloc (.cells #[.int .i64 x, .int .i64 y, .int .i64 z] 3)).cell? ⟨w.heap.size, 1, none⟩ = some (.int .i64 y) ∧ (w.alloc (.cells #[.int .i64 x, .int .i64 y, .int .i64 z] 3)).cell? ⟨w.heap.size, 2, none⟩ = some (.int .i64 z) :=
  ⟨by simp, by simp, by simp⟩

end Go.Proofs.YtkhcoefcifaaeaaDoor

namespace Go.Proofs.YtkhcoefcifaaeaaDoor
open Go.RowKit

def idN (x : UInt8) : List UInt8 := x :: List.replicate 31 0
theorem idN_length (x : UInt8) : (idN x).length = 32 := rfl

theorem build_1 (w : World) : (Instr.build 24 #[(0, .int .u8 1)]).run Tryd.prog w = .ok (.agg (idCells (idN 1))) w := by kernel_rfl
theorem build_2 (w : World) : (Instr.build 24 #[(0, .int .u8 2)]).run Tryd.prog w = .ok (.agg (idCells (idN 2))) w := by kernel_rfl
theorem build_3 (w : World) : (Instr.build 24 #[(0, .int .u8 3)]).run Tryd.prog w = .ok (.agg (idCells (idN 3))) w := by kernel_rfl
theorem wl_build {w : World} {ops : Array Oper} {rest : List Oper} {o : Oper} {a : Act} {Q : Exit → Act → World → Prop} (z : Int) (x : UInt8) (hr : ∀ w, (Instr.build 24 #[(0, .int .u8 z)]).run Tryd.prog w = .ok (.agg (idCells (idN x))) w) (hgd : o.guard = none) (ho : o.op = .build 24 #[(0, .const (.int .u8 z))])
    (h : wpList Tryd.prog ops Q rest (a.put o.dst (.agg (idCells (idN x)))) w) : wpList Tryd.prog ops Q (o :: rest) a w := by
  refine wpList_ok hgd ?_ h
  unfold execOp
  simp only [ho, List.map_toArray, List.map_cons, List.map_nil, Act.eval, Sem.run_bind, Sem.run_pure, hr, Result.andThen_ok]

/-- A slice built of ids. -/
theorem ids_built (w : World) (L : List (List UInt8)) (h : W32 L) (n : Nat) (hl : L.length = n) (hn : n ≤ 1000) : IdsAt (w.alloc (.cells (flat L).toArray 24)) (some ⟨w.heap.size, 0, none⟩) n n L := by
  refine ⟨hl, Nat.le_refl _, by omega, h, .inr ⟨w.heap.size, 0, rfl, fun j v hv => ?_⟩⟩
  rw [Nat.zero_add, cell_of_row _ _ j _ _ (0, 0) (heap_alloc_new w _)]
  simpa using hv
theorem run_13 (w : World) : (Instr.buildSlice 39 2 #[(0, .agg (idCells (idN 1))), (1, .agg (idCells (idN 3)))]).run Tryd.prog w = .ok (.slice (some ⟨w.heap.size, 0, none⟩) 2 2) (w.alloc (.cells (flat [idN 1, idN 3]).toArray 24)) := by kernel_rfl
theorem run_12 (w : World) : (Instr.buildSlice 39 2 #[(0, .agg (idCells (idN 1))), (1, .agg (idCells (idN 2)))]).run Tryd.prog w = .ok (.slice (some ⟨w.heap.size, 0, none⟩) 2 2) (w.alloc (.cells (flat [idN 1, idN 2]).toArray 24)) := by kernel_rfl
theorem run_212 (w : World) : (Instr.buildSlice 39 3 #[(0, .agg (idCells (idN 2))), (1, .agg (idCells (idN 1))), (2, .agg (idCells (idN 2)))]).run Tryd.prog w = .ok (.slice (some ⟨w.heap.size, 0, none⟩) 3 3) (w.alloc (.cells (flat [idN 2, idN 1, idN 2]).toArray 24)) := by kernel_rfl

theorem exec_two {w w' : World} {v : Value} {o : Oper} {a : Act} (x y : Operand) (X Y : Value) (ho : o.op = .buildSlice 39 2 #[(0, x), (1, y)]) (hx : a.eval x = X) (hy : a.eval y = Y)
    (hr : (Instr.buildSlice 39 2 #[(0, X), (1, Y)]).run Tryd.prog w = .ok v w') : (execOp a.eval o).run Tryd.prog w = .ok (.value v) w' := by
  unfold execOp
  simp only [ho, List.map_toArray, List.map_cons, List.map_nil, hx, hy, Sem.run_bind, Sem.run_pure, hr, Result.andThen_ok]
theorem exec_three {w w' : World} {v : Value} {o : Oper} {a : Act} (x y z : Operand) (X Y Z : Value) (ho : o.op = .buildSlice 39 3 #[(0, x), (1, y), (2, z)]) (hx : a.eval x = X) (hy : a.eval y = Y) (hz : a.eval z = Z)
    (hr : (Instr.buildSlice 39 3 #[(0, X), (1, Y), (2, Z)]).run Tryd.prog w = .ok v w') : (execOp a.eval o).run Tryd.prog w = .ok (.value v) w' := by
  unfold execOp
  simp only [ho, List.map_toArray, List.map_cons, List.map_nil, hx, hy, hz, Sem.run_bind, Sem.run_pure, hr, Result.andThen_ok]

theorem exec_step {w w' : World} {ops : Array Oper} {o : Oper} {a : Act} {K : Act → World → Prop} {Q : Exit → Act → World → Prop} {v : Value} (hr : (execOp a.eval o).run Tryd.prog w = .ok (.value v) w') (h : K (a.put o.dst v) w') (hgd : o.guard = none := by rfl) :
    if Region.wanted o (yielded ops a.tmps) = true then o.wp Tryd.prog a w K Q else K (a.put o.dst undef) w := by
  rw [if_pos (by unfold Region.wanted; rw [hgd])]
  unfold Oper.wp
  rw [hr]
  exact h

theorem find_132 : findIF [idN 1, idN 3] (idN 2) = (1, false) := by decide +kernel
theorem cmp_12 : cmpF (idN 1) (idN 2) = -1 := by decide +kernel
theorem set_212 : setF [idN 2, idN 1, idN 2] = [idN 1, idN 2] :=
  (setF_of (m := [idN 1, idN 2]) (l := [idN 2, idN 1, idN 2]) (by simp [SetF, cmp_12]) (fun x => by simp only [List.mem_cons, List.not_mem_nil, or_false]; exact ⟨fun h => Or.inr h, fun h => h.elim Or.inr id⟩)).symm
def k2 : KeyV := ⟨2, idZero, 0⟩
def k1 : KeyV := ⟨1, idZero, 0⟩
theorem key_21 : keyF k2 k1 = 1 := by decide +kernel
theorem W_13 : W32 [idN 1, idN 3] := fun x hx => by simp at hx; rcases hx with rfl | rfl <;> rfl
theorem W_12 : W32 [idN 1, idN 2] := fun x hx => by simp at hx; rcases hx with rfl | rfl <;> rfl
theorem W_212 : W32 [idN 2, idN 1, idN 2] := fun x hx => by simp at hx; rcases hx with rfl | rfl | rfl <;> rfl
theorem idAt_ne {w w' : World} {g k : Nat} {l : List UInt8} (h : IdAt w g l) (hg : w.grownBy w' (some k)) (hne : g ≠ k) : IdAt w' g l := h.grown hg (fun e => hne (Option.some.inj e))
theorem set_is (W : World) (g : Nat) (h : IdsAt W (some ⟨g, 0, none⟩) 3 3 [idN 2, idN 1, idN 2]) : Calls Tryd.prog 52 #[.slice (some ⟨g, 0, none⟩) 3 3] W fun e w' => ∃ a c, e = .returned (.slice a 2 c) ∧ IdsAt w' a 2 c [idN 1, idN 2] ∧ Below W.heap.size W w' := by
  have := set_any _ 3 3 _ W h (by omega)
  rw [set_212] at this
  exact this
theorem same_is (W : World) (a b : Option Addr) (c d : Nat) (h : IdsAt W a 2 c [idN 1, idN 2]) (k : IdsAt W b 2 d [idN 1, idN 2]) : Calls Tryd.prog 9 #[.slice a 2 c, .slice b 2 d] W fun e w' => e = .returned (.bool true) ∧ Below W.heap.size W w' := by
  have := same_any a 2 c _ b 2 d _ W h k (by omega)
  rw [decide_eq_true rfl] at this
  exact this
theorem cmp_is12 (W : World) : Calls Tryd.prog 53 #[.agg (idCells (idN 1)), .agg (idCells (idN 2))] W fun e w' => e = .returned (.int .i64 (-1)) ∧ Below W.heap.size W w' := cmp_is _ _ (-1) W rfl rfl cmp_12.symm
end Go.Proofs.YtkhcoefcifaaeaaDoor

namespace Go.Proofs.YtkhcoefcifaaeaaDoor
open Go.RowKit

end Go.Proofs.YtkhcoefcifaaeaaDoor

namespace Go.Proofs.YtkhcoefcifaaeaaDoor
open Go.RowKit

theorem wanted_plain {o : Oper} {l} (h : o.guard = none) : Region.wanted o l = true := by unfold Region.wanted; rw [h]

theorem findF_set (l : List (List UInt8)) (y : List UInt8) : findIF (setF l) y = (aheadF (setF l) y, decide (y ∈ l)) := by
  unfold findIF
  rw [if_pos ((isSetF_iff _).2 (setF_set l))]
  congr 1
  rw [Bool.eq_iff_iff, decide_eq_true_iff, decide_eq_true_iff]
  exact setF_mem l y
theorem in_at (a : Option Addr) (n c : Nat) (l : List (List UInt8)) (x : List UInt8) (b : Bool) (w : World) (ha : IdsAt w a n c l) (hx : x.length = 32) (hn : n ≤ 1000000000) (hb : b = decide (x ∈ l)) :
    Calls Tryd.prog 42 #[.slice a n c, .agg (idCells x)] w fun e w' => e = .returned (.bool b) ∧ Below w.heap.size w w' := by
  subst hb
  exact in_any a n c l x w ha hx (by omega)
theorem set_at (a : Option Addr) (n c m : Nat) (l : List (List UInt8)) (w : World) (hb : IdsAt w a n c l) (hl : n ≤ 1000000000) (hm : m = (setF l).length) :
    Calls Tryd.prog 52 #[.slice a n c] w fun e w' => ∃ a1 c1, e = .returned (.slice a1 m c1) ∧ IdsAt w' a1 m c1 (setF l) ∧ Below w.heap.size w w' := by
  subst hm
  exact set_any a n c l w hb hl
theorem nodup_le : ∀ (s l : List (List UInt8)), s.Nodup → (∀ x ∈ s, x ∈ l) → s.length ≤ l.length
  | [], _, _, _ => Nat.zero_le _
  | x :: s, l, hn, h => by
    rw [List.nodup_cons] at hn
    have hx := h x (by simp)
    have := nodup_le s (l.erase x) hn.2 (fun y hy => (List.mem_erase_of_ne (show y ≠ x from fun e => hn.1 (e ▸ hy))).2 (h y (by simp [hy])))
    rw [List.length_erase_of_mem hx] at this
    have hp := List.length_pos_of_mem hx
    rw [List.length_cons]
    omega
theorem setF_length_le (l : List (List UInt8)) : (setF l).length ≤ l.length := by
  have h1 : (setF l).Nodup := (setF_set l).nodup
  exact nodup_le _ _ h1 (fun x hx => (setF_mem l x).1 hx)

end Go.Proofs.YtkhcoefcifaaeaaDoor
