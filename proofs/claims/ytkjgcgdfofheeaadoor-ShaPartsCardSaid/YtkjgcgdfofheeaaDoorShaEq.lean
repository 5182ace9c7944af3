/-
  '==' on ids; a slice of parts that was built anew.
-/
import Derived.Test.YtkjgcgdfofheeaaDoorShaAwake
namespace Go.Proofs.YtkjgcgdfofheeaaDoor
open Go.RowKit

theorem run_items_self (w : World) (d : Nat) (l : List UInt8) : ∀ is : List Nat, (∀ i ∈ is, i < l.length) → (Op.eqItems (d + 1) 5 1 (bytesV l).toArray (bytesV l).toArray is).run Tryd.prog w = .ok true w
  | [], _ => by simp [Op.eqItems]
  | i :: is, h => by
    have hi : i < l.length := h i (by simp)
    have hp : (part 5 (bytesV l).toArray (i * 1)).run Tryd.prog w = .ok (B (l.getD i 0)) w := by
      have hagg : (isAgg 5).run Tryd.prog w = .ok false w := by kernel_rfl
      have hget : (bytesV l).toArray[i]? = some (B (l.getD i 0)) := by unfold bytesV; simp [hi]
      simp [part, hagg, hget]
    have he : (Op.equalIn (d + 1) 5 (B (l.getD i 0)) (B (l.getD i 0))).run Tryd.prog w = .ok true w := by
      simp [Op.equalIn, run_underlying Tryd.underlying5, B]
    simp only [Op.eqItems, Sem.run_bind, hp, he, Result.andThen_ok]
    simp only [Bool.not_true, Bool.false_eq_true, if_false]
    exact run_items_self w d l is (fun j hj => h j (by simp [hj]))

theorem run_eq_id (w : World) {l : List UInt8} (h : l.length = 32) : (Op.equalIn 10000 24 (.agg (bytesV l).toArray) (.agg (bytesV l).toArray)).run Tryd.prog w = .ok true w := by
  obtain ⟨i0, hi, _⟩ := info_parts Tryd.info5
  have hc : Tryd.prog.cellsOf 5 = 1 := by kernel_rfl
  rw [show (10000 : Nat) = 9999 + 1 from rfl, run_equalIn_array w 9999 (bytesV l).toArray (bytesV l).toArray Tryd.underlying24 hi, hc, show (9999 : Nat) = 9998 + 1 from rfl]
  exact run_items_self w 9998 l (List.range 32) (fun i hi => by rw [h]; simpa using hi)

theorem noGuard_id : Tryd.prog.eqGuardType Tryd.prog.depth 24 = false := by kernel_rfl

/-- '==' on two sums that are alike, whether or not a guard stands ahead. -/
theorem exec_eql_sum {w : World} {o : Oper} {a : Act} (x y : Operand) (r : TypeId) (ho : o.op = .binOp .eql 24 x y r)
    (l : List UInt8) (hx : a.eval x = .agg (bytesV (sumF l)).toArray) (hy : a.eval y = .agg (bytesV (sumF l)).toArray) :
    (execOp a.eval o).run Tryd.prog w = .ok (.value (.bool true)) w := by
  unfold execOp
  simp only [ho, hx, hy, Sem.run_bind, run_eqGuard_agg w _ _ _ _ _ _ noGuard_id, Result.andThen_ok, run_eql_struct, run_eq_id w (sumF_length l), Sem.run_pure]

theorem eql_sum {w : World} {ops : Array Oper} {rest : List Oper} {o : Oper} {a : Act} {Q : Exit → Act → World → Prop} (hgd : o.guard = none) (x y : Operand) (r : TypeId) (ho : o.op = .binOp .eql 24 x y r)
    (l : List UInt8) (hx : a.eval x = .agg (bytesV (sumF l)).toArray) (hy : a.eval y = .agg (bytesV (sumF l)).toArray)
    (h : wpList Tryd.prog ops Q rest (a.put o.dst (.bool true)) w) :
    wpList Tryd.prog ops Q (o :: rest) a w := wpList_ok hgd (exec_eql_sum x y r ho l hx hy) h

theorem wpList_guarded {P : Program} {w w' : World} {ops : Array Oper} {rest : List Oper} {o : Oper} {a : Act} {Q : Exit → Act → World → Prop} {v : Value} (hw : Region.wanted o (yielded ops a.tmps) = true)
    (hr : (execOp a.eval o).run P w = .ok (.value v) w') (h : wpList P ops Q rest (a.put o.dst v) w') : wpList P ops Q (o :: rest) a w := by
  unfold wpList
  rw [if_pos hw]
  exact .inl (by unfold Oper.wp; rw [hr]; exact h)

theorem eql_sum_g {w : World} {ops : Array Oper} {rest : List Oper} {o : Oper} {a : Act} {Q : Exit → Act → World → Prop} (hw : Region.wanted o (yielded ops a.tmps) = true) (x y : Operand) (r : TypeId) (ho : o.op = .binOp .eql 24 x y r)
    (l : List UInt8) (hx : a.eval x = .agg (bytesV (sumF l)).toArray) (hy : a.eval y = .agg (bytesV (sumF l)).toArray)
    (h : wpList Tryd.prog ops Q rest (a.put o.dst (.bool true)) w) :
    wpList Tryd.prog ops Q (o :: rest) a w := wpList_guarded hw (exec_eql_sum x y r ho l hx hy) h

/-- Parts in a block that was made just now. -/
theorem parts_new (w : World) (vs : List Value) (ps : List (List UInt8)) (hl : vs.length = ps.length) (h1 : ps.length ≤ 1000)
    (h : ∀ j, j < ps.length → ∃ a n c, vs[j]? = some (.slice a n c) ∧ Bytes w a n c (ps.getD j [])) :
    Parts (w.alloc (.cells vs.toArray 22)) (some ⟨w.heap.size, 0, none⟩) vs.length ps := by
  refine ⟨hl.symm, by omega, .inr ⟨_, _, rfl, fun j hj => ?_⟩⟩
  obtain ⟨a, n, c, hv, hb⟩ := h j (by omega)
  refine ⟨a, n, c, ?_, hb.below ((Below.refl _ _).alloc (Nat.le_refl _) _)⟩
  rw [Nat.zero_add, World.cell?_alloc_new]
  simpa using hv

theorem Bytes.alloc {w : World} {a : Option Addr} {n c : Nat} {l : List UInt8} (h : Bytes w a n c l) (o : Obj) : Bytes (w.alloc o) a n c l := h.below ((Below.refl _ _).alloc (Nat.le_refl _) _)
theorem Parts.alloc {w : World} {a : Option Addr} {n : Nat} {ps : List (List UInt8)} (h : Parts w a n ps) (o : Obj) : Parts (w.alloc o) a n ps := h.below ((Below.refl _ _).alloc (Nat.le_refl _) _)

theorem parts1 {W : World} {a : Option Addr} {n c g : Nat} {l : List UInt8} (h : Bytes W a n c l) (hg : g = W.heap.size) :
    Parts (W.alloc (.cells #[.slice a n c] 22)) (some ⟨g, 0, none⟩) 1 [l] := by
  subst hg
  exact parts_new W [.slice a n c] [l] rfl (by simp) (fun j hj => match j, hj with | 0, _ => ⟨a, n, c, rfl, h⟩)
theorem parts2 {W : World} {a a2 : Option Addr} {n c n2 c2 g : Nat} {l l2 : List UInt8} (h : Bytes W a n c l) (h2 : Bytes W a2 n2 c2 l2) (hg : g = W.heap.size) :
    Parts (W.alloc (.cells #[.slice a n c, .slice a2 n2 c2] 22)) (some ⟨g, 0, none⟩) 2 [l, l2] := by
  subst hg
  exact parts_new W [.slice a n c, .slice a2 n2 c2] [l, l2] rfl (by simp) (fun j hj => match j, hj with
    | 0, _ => ⟨a, n, c, rfl, h⟩
    | 1, _ => ⟨a2, n2, c2, rfl, h2⟩)

theorem sum_one (a : Option Addr) (l : List UInt8) (w : World) (hp : Parts w a 1 [l]) (ht : Tables w) (hl : l.length ≤ 100000000000000) :
    Calls Tryd.prog 8 #[.slice a 1 1] w fun e w' => e = .returned (.agg (bytesV (sumF l)).toArray) ∧ Below w.heap.size w w' := by
  have h := sum_any a 1 1 [l] w hp ht (by simpa using hl)
  simpa using h
theorem sum_two (a : Option Addr) (l1 l2 l : List UInt8) (hl12 : l1 ++ l2 = l) (w : World) (hp : Parts w a 2 [l1, l2]) (ht : Tables w) (hl : l.length ≤ 100000000000000) :
    Calls Tryd.prog 8 #[.slice a 2 2] w fun e w' => e = .returned (.agg (bytesV (sumF l)).toArray) ∧ Below w.heap.size w w' := by
  subst hl12
  have h := sum_any a 2 2 [l1, l2] w hp ht (by simpa using hl)
  simpa using h

/-- What a law on one hash, some bytes and two pieces of them keeps through its calls. -/
structure Held (base : Nat) (w0 : World) (g : Nat) (l l1 l2 : List UInt8) (a : Option Addr) (n c : Nat) (a1 : Option Addr) (n1 c1 : Nat) (a2 : Option Addr) (n2 c2 : Nat) (W : World) : Prop where
  size : base ≤ W.heap.size
  below : Below base w0 W
  hash : HashOf W g l
  tabs : Tables W
  b0 : Bytes W a n c l
  b1 : Bytes W a1 n1 c1 l1
  b2 : Bytes W a2 n2 c2 l2

theorem Held.next {base : Nat} {w0 : World} {g : Nat} {l l1 l2 : List UInt8} {a : Option Addr} {n c : Nat} {a1 : Option Addr} {n1 c1 : Nat} {a2 : Option Addr} {n2 c2 : Nat} {W W' : World}
    (h : Held base w0 g l l1 l2 a n c a1 n1 c1 a2 n2 c2 W) (hb : Below W.heap.size W W') : Held base w0 g l l1 l2 a n c a1 n1 c1 a2 n2 c2 W' :=
  ⟨Nat.le_trans h.size hb.size, h.below.trans (hb.mono h.size), h.hash.below hb, h.tabs.below hb, h.b0.below hb, h.b1.below hb, h.b2.below hb⟩
theorem Held.alloc {base : Nat} {w0 : World} {g : Nat} {l l1 l2 : List UInt8} {a : Option Addr} {n c : Nat} {a1 : Option Addr} {n1 c1 : Nat} {a2 : Option Addr} {n2 c2 : Nat} {W : World}
    (h : Held base w0 g l l1 l2 a n c a1 n1 c1 a2 n2 c2 W) (o : Obj) : Held base w0 g l l1 l2 a n c a1 n1 c1 a2 n2 c2 (W.alloc o) := h.next ((Below.refl _ _).alloc (Nat.le_refl _) _)
end Go.Proofs.YtkjgcgdfofheeaaDoor
