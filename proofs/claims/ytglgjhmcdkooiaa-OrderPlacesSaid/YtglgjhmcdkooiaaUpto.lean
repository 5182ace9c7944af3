/-
  What a bound on the arguments' bulk gives; a struct, an id, that came in, opened.
-/
import Derived.Test.YtglgjhmcdkooiaaOpen
import Derived.Test.YtglgjhmcdkooiaaIds
import Derived.JoinedCond
namespace Go.Proofs.Ytglgjhmcdkooiaa
open Go.ChangeShapes Go.WideShapes Go.ChangeAt Go.RowKit

theorem bulk_pos {H : Type} (d : DataW H) : 1 ≤ Rows.uptoBulk d := by
  rcases d with l | _ | _ | _ | _ | _ | _ | _
  · cases l <;> simp [Rows.uptoBulk]
  all_goals simp [Rows.uptoBulk]

theorem bulk_mem {H : Type} : ∀ (l : List (DataW H)) (d : DataW H), d ∈ l → Rows.uptoBulk d ≤ Rows.uptoBulkAll l
  | [], d, h => by cases h
  | x :: r, d, h => by
    rw [Rows.uptoBulkAll]
    rcases List.mem_cons.1 h with rfl | h
    · omega
    · have := bulk_mem r d h; omega

theorem bulk_count {H : Type} : ∀ l : List (DataW H), l.length ≤ Rows.uptoBulkAll l
  | [] => by simp
  | x :: r => by
    have h1 := bulk_pos x
    have h2 := bulk_count r
    rw [Rows.uptoBulkAll, List.length_cons]; omega

theorem bulk_bytes {H : Type} {d : DataW H} {cap : Nat} (h : (d = .nil ∧ cap = 0) ∨ ∃ elems spare, d = .slice elems spare ∧ elems.length + spare.length = cap) : cap ≤ Rows.uptoBulk d := by
  rcases h with ⟨_, rfl⟩ | ⟨elems, spare, rfl, rfl⟩
  · omega
  · have h1 := bulk_count elems
    have h2 := bulk_count spare
    simp only [Rows.uptoBulk]; omega

theorem bulk_string {H : Type} (bs : List UInt8) : bs.length ≤ Rows.uptoBulk (DataW.lit (H := H) (.string bs)) := by simp [Rows.uptoBulk]

/-- Numbers of a byte's kind, cell by cell. -/
theorem byte_cells {cs : List Value} (h : ∀ i, i < cs.length → ∃ z : Int, cs[i]? = some (.int .u8 z) ∧ (Lit.int .u8 z).wf = true) : ∃ l : List UInt8, l.length = cs.length ∧ cs = l.map B := by
  induction cs with
  | nil => exact ⟨[], rfl, rfl⟩
  | cons c r ih =>
    obtain ⟨l, hl, hr⟩ := ih (fun i hi => by have := h (i + 1) (by simp; omega); simpa using this)
    obtain ⟨z, hz, hw⟩ := h 0 (by simp)
    have hb : 0 ≤ z ∧ z ≤ 255 := by simpa [Lit.wf, IntKind.min, IntKind.max, IntKind.signed, IntKind.bits] using hw
    simp only [List.getElem?_cons_zero, Option.some.injEq] at hz
    refine ⟨UInt8.ofNat z.toNat :: l, by simp [hl], ?_⟩
    rw [List.map_cons, hz, ← hr]
    congr 1
    simp only [B, UInt8.toNat_ofNat']
    congr 1
    omega

/-- An id's cells, as they are read. -/
theorem id_cells {H : Type} {enc : TypeId × Value → H} {W : World} {fuel : Nat} {cs : List Value} {x : DataW H × List MemPlace}
    (h : DataW.trod enc Try.prog W 0 (fun _ => true) true fuel 31 cs = some x) : ∃ l : List UInt8, l.length = 32 ∧ cs = l.map B := by
  obtain ⟨xs, m, _, _, hl, _, hi⟩ := DataW.trod_array Try.underlying31 h
  have h32 : Try.prog.cellsOf 31 = 32 := by kernel_rfl
  have h1 : Try.prog.cellsOf 5 = 1 := by kernel_rfl
  rw [h32] at hl
  rw [h1] at hi
  obtain ⟨l, h2, h3⟩ := byte_cells (cs := cs) (fun i hi' => by
    have := hi i (by omega)
    rw [Nat.mul_one, List.drop_eq_getElem_cons hi', List.take_succ_cons, List.take_zero] at this
    cases hx : xs[i]? with
    | none => rw [List.getElem?_eq_none_iff] at hx; omega
    | some y =>
      rw [hx] at this
      obtain ⟨z, hz, _, hw⟩ := DataW.trod_int Try.underlying5 this
      simp only [List.cons.injEq, and_true] at hz
      exact ⟨z, by rw [List.getElem?_eq_getElem hi', hz], hw⟩)
  exact ⟨l, by omega, h3⟩

/-- An id that came in. -/
theorem open_id {H : Type} {enc : TypeId × Value → H} {W : World} {v : Value} {d : DataW H} {p : List MemPlace} (hs : ∃ cs, v = .agg cs)
    (h : DataW.Trod enc Try.prog W 0 (fun _ => true) true 31 v d p) : ∃ l : List UInt8, l.length = 32 ∧ v = .agg (idCells l) := by
  obtain ⟨cs, rfl⟩ := hs
  obtain ⟨fuel, hf⟩ := h
  obtain ⟨l, h1, h2⟩ := id_cells hf
  refine ⟨l, h1, ?_⟩
  congr 1
  rw [← Array.toList_inj]
  simpa [Value.cells, idCells] using h2
#print axioms open_id
end Go.Proofs.Ytglgjhmcdkooiaa
