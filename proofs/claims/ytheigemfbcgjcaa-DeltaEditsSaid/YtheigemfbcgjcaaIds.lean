/-
  Ids: arrays of 32 bytes: a new one, one that is stored, one that is loaded, two that are alike.
-/
import Derived.Test.YtheigemfbcgjcaaBytes
import Derived.Deep.MidRow
import Derived.ChangeKeysEq
import Derived.Laws.StructEq
namespace Go.Proofs.Ytheigemfbcgjcaa
open Go.RowKit

/-- An id's cells. -/
def idCells (l : List UInt8) : Array Value := (l.map B).toArray

/-- No id: all zeros. -/
def idZero : List UInt8 := List.replicate 32 0

theorem wpList_ok {P : Program} {w w' : World} {ops : Array Oper} {rest : List Oper} {o : Oper} {a : Act} {Q : Exit → Act → World → Prop} {v : Value} (hgd : o.guard = none)
    (hr : (execOp a.eval o).run P w = .ok (.value v) w') (h : wpList P ops Q rest (a.put o.dst v) w') : wpList P ops Q (o :: rest) a w :=
  wpList_plain hgd fun K hK => by unfold Oper.wp; rw [hr]; exact hK _ _ h

theorem wpList_skip {P : Program} {w w' : World} {ops : Array Oper} {rest : List Oper} {o : Oper} {a : Act} {Q : Exit → Act → World → Prop} (hgd : o.guard = none)
    (hr : (execOp a.eval o).run P w = .ok .skip w') (h : wpList P ops Q rest (a.put o.dst undef) w') : wpList P ops Q (o :: rest) a w :=
  wpList_plain hgd fun K hK => by unfold Oper.wp; rw [hr]; exact hK _ _ h

theorem idCells_size {l : List UInt8} (h : l.length = 32) : (idCells l).size = 32 := by simp [idCells, h]
theorem idZero_length : idZero.length = 32 := by simp [idZero]

theorem run_items_self (w : World) (d : Nat) (l : List UInt8) : ∀ is : List Nat, (∀ i ∈ is, i < l.length) → (Op.eqItems (d + 1) 5 1 (idCells l) (idCells l) is).run Try.prog w = .ok true w
  | [], _ => by simp [Op.eqItems]
  | i :: is, h => by
    have hi : i < l.length := h i (by simp)
    have hp : (part 5 (idCells l) (i * 1)).run Try.prog w = .ok (B (l.getD i 0)) w := by
      have hagg : (isAgg 5).run Try.prog w = .ok false w := by kernel_rfl
      have hget : (idCells l)[i]? = some (B (l.getD i 0)) := by unfold idCells; simp [hi]
      simp [part, hagg, hget]
    have he : (Op.equalIn (d + 1) 5 (B (l.getD i 0)) (B (l.getD i 0))).run Try.prog w = .ok true w := by
      simp [Op.equalIn, run_underlying Try.underlying5, B]
    simp only [Op.eqItems, Sem.run_bind, hp, he, Result.andThen_ok]
    simp only [Bool.not_true, Bool.false_eq_true, if_false]
    exact run_items_self w d l is (fun j hj => h j (by simp [hj]))

theorem Bytes.cells {w : World} {b off n c : Nat} {l : List UInt8} (h : Bytes w (some ⟨b, off, none⟩) n c l) : ∀ j, j < n → w.cell? ⟨b, off + j, none⟩ = some (.int .u8 ((l.getD j 0).toNat : Int)) := by
  intro j hj
  rcases h.2.2.2 with ⟨h0, _⟩ | ⟨b', off', ha, hc⟩
  · omega
  · simp only [Option.some.injEq, Addr.mk.injEq, and_true] at ha
    obtain ⟨rfl, rfl⟩ := ha
    exact hc j hj

theorem take_set_next {m l : List UInt8} {j : Nat} {x : UInt8} (h : m.take j = l.take j) (hm : j < m.length) (hl : j < l.length) (hx : x = l.getD j 0) : (m.set j x).take (j + 1) = l.take (j + 1) := by
  rw [List.take_succ_eq_append_getElem (by simpa using hm), List.take_succ_eq_append_getElem hl, List.take_set_of_le (Nat.le_refl _), h]
  simp [hx, hl]

/-- What GetId answers. -/
def getD_ (l : List UInt8) (at_ : Int) : List UInt8 × Nat × Nat :=
  if at_ < 0 ∨ (l.length : Int) < at_ then (idZero, 0, 1) else if (l.length : Int) - at_ < 32 then (idZero, 0, 6) else ((l.drop at_.toNat).take 32, at_.toNat + 32, 0)

/-- An id's answer. -/
def IdIs (r : List UInt8 × Nat × Nat) (w : World) (e : Ending) (w' : World) : Prop :=
  e = .returned (.tuple #[.agg (idCells r.1), .int .i64 r.2.1, .int .i64 r.2.2]) ∧ Below w.heap.size w w'

theorem getD_length (l : List UInt8) (at_ : Int) : (getD_ l at_).1.length = 32 := by
  unfold getD_
  split
  · exact idZero_length
  · split
    · exact idZero_length
    · simp; omega

end Go.Proofs.Ytheigemfbcgjcaa
