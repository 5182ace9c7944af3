/-
  A key that came in by value.
-/
import Derived.Test.YtiakbbokmllcdaaIdOpen
import Derived.Test.YtiakbbokmllcdaaOrdKey
namespace Go.Proofs.Ytiakbbokmllcdaa
open Go.ChangeShapes Go.WideShapes Go.ChangeAt Go.RowKit

theorem open_key {H : Type} {enc : TypeId × Value → H} {W : World} {base : Nat} {v : Value} {d : DataW H} {p : List MemPlace} (hv : Value.okWide Try.prog W .any base 25 v)
    (h : DataW.Trod enc Try.prog W 0 (fun _ => true) true 25 v d p) : ∃ k : KeyV, k.c.length = 32 ∧ v = .agg (keyC k) := by
  have hs : ∃ cs, v = .agg cs := by
    simp only [Value.okWide, Try.underlying25] at hv
    obtain ⟨cs, h1, _⟩ := hv
    exact ⟨cs, h1⟩
  obtain ⟨cs, rfl⟩ := hs
  obtain ⟨fuel, hf⟩ := h
  obtain ⟨xs, n, _, hx, hl, hlen, hfs⟩ := DataW.trod_struct Try.underlying25 hf
  have c34 : Try.prog.cellsOf 25 = 34 := by kernel_rfl
  have c1 : Try.prog.cellsOf 3 = 1 := by kernel_rfl
  have c32 : Try.prog.cellsOf 23 = 32 := by kernel_rfl
  rw [c34] at hl
  have hl' : cs.toList.length = 34 := hl
  obtain ⟨y0, y1, y2, rfl⟩ : ∃ y0 y1 y2, xs = [y0, y1, y2] := by
    match xs, hlen with
    | [y0, y1, y2], _ => exact ⟨y0, y1, y2, rfl⟩
  have e0 : DataW.trod enc Try.prog W 0 (fun _ => true) true n 3 ((cs.toList.drop 0).take (Try.prog.cellsOf 3)) = some y0 := hfs 0 _ rfl
  have e1 : DataW.trod enc Try.prog W 0 (fun _ => true) true n 23 ((cs.toList.drop 1).take (Try.prog.cellsOf 23)) = some y1 := hfs 1 _ rfl
  have e2 : DataW.trod enc Try.prog W 0 (fun _ => true) true n 3 ((cs.toList.drop 33).take (Try.prog.cellsOf 3)) = some y2 := hfs 2 _ rfl
  obtain ⟨z0, k0, _⟩ := DataW.trod_int Try.underlying3 e0
  obtain ⟨l, k1, k1'⟩ := id_cells e1
  obtain ⟨z2, k2, _⟩ := DataW.trod_int Try.underlying3 e2
  rw [c1] at k0 k2
  rw [c32] at k1'
  refine ⟨⟨z0, l, z2⟩, k1, ?_⟩
  congr 1
  rw [← Array.toList_inj]
  show cs.toList = keyL _
  generalize cs.toList = c at hl' k0 k1' k2
  have h1 : c = c.take 1 ++ ((c.drop 1).take 32 ++ c.drop 33) := by
    rw [show c.drop 33 = (c.drop 1).drop 32 from by rw [List.drop_drop], List.take_append_drop, List.take_append_drop]
  have h2 : c.drop 33 = (c.drop 33).take 1 := by rw [List.take_of_length_le (by simp; omega)]
  rw [h1, h2, k1', k2]
  rw [List.drop_zero] at k0
  rw [k0]
  rfl
#print axioms open_key
end Go.Proofs.Ytiakbbokmllcdaa
