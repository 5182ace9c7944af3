/-
  An id's cells as they are read, with no bound named (the part of XUpto that a seat without bytes takes).
-/
import Derived.Test.YtejooogfnnidcaaDoorOpen0
import Derived.Test.YtejooogfnnidcaaDoorIds
namespace Go.Proofs.YtejooogfnnidcaaDoor
open Go.ChangeShapes Go.WideShapes Go.ChangeAt Go.RowKit

/-- Numbers of a byte's kind, cell by cell. -/
theorem byte_cells {cs : List Value} (h : ∀ i, i < cs.length → ∃ z : Int, cs[i]? = some (.int .u8 z) ∧ (Lit.int .u8 z).wf = true) : ∃ l : List UInt8, l.length = cs.length ∧ cs = l.map B := by
  induction cs with
  | nil => exact ⟨[], rfl, rfl⟩
  | cons c r ih =>
    obtain ⟨l, hl, hr⟩ := ih (fun i hi => by have := h (i + 1) (by simp; omega); simpa using this)
    obtain ⟨z, hz, hw⟩ := h 0 (by simp)
    have hb : 0 ≤ z ∧ z ≤ 255 := by simpa [Lit.wf, IntKind.min, IntKind.max, IntKind.signed, IntKind.bits] using hw
    simp only [List.getElem?_cons_zero, Option.some.injEq] at hz
    refine ⟨UInt8.ofNat z.toNat :: l, by simp [hl], ?_⟩
    rw [List.map_cons, hz, ← hr]
    congr 1
    simp only [B, UInt8.toNat_ofNat']
    congr 1
    omega

/-- An id's cells, as they are read. -/
theorem id_cells {H : Type} {enc : TypeId × Value → H} {W : World} {fuel : Nat} {cs : List Value} {x : DataW H × List MemPlace}
    (h : DataW.trod enc Tryd.prog W 0 (fun _ => true) true fuel 24 cs = some x) : ∃ l : List UInt8, l.length = 32 ∧ cs = l.map B := by
  obtain ⟨xs, m, _, _, hl, _, hi⟩ := DataW.trod_array Tryd.underlying24 h
  have h32 : Tryd.prog.cellsOf 24 = 32 := by kernel_rfl
  have h1 : Tryd.prog.cellsOf 5 = 1 := by kernel_rfl
  rw [h32] at hl
  rw [h1] at hi
  obtain ⟨l, h2, h3⟩ := byte_cells (cs := cs) (fun i hi' => by
    have := hi i (by omega)
    rw [Nat.mul_one, List.drop_eq_getElem_cons hi', List.take_succ_cons, List.take_zero] at this
    cases hx : xs[i]? with
    | none => rw [List.getElem?_eq_none_iff] at hx; omega
    | some y =>
      rw [hx] at this
      obtain ⟨z, hz, _, hw⟩ := DataW.trod_int Tryd.underlying5 this
      simp only [List.cons.injEq, and_true] at hz
      exact ⟨z, by rw [List.getElem?_eq_getElem hi', hz], hw⟩)
  exact ⟨l, by omega, h3⟩

#print axioms id_cells
end Go.Proofs.YtejooogfnnidcaaDoor
