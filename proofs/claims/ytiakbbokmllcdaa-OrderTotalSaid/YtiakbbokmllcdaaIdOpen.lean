/-
  An id that came in by value.
-/
import Derived.Test.YtiakbbokmllcdaaUpto
namespace Go.Proofs.Ytiakbbokmllcdaa
open Go.ChangeShapes Go.WideShapes Go.ChangeAt Go.RowKit

theorem okWide_id {W : World} {base : Nat} {v : Value} (h : Value.okWide Try.prog W .any base 23 v) : ∃ cs, v = .agg cs := by
  simp only [Value.okWide, Try.underlying23] at h
  obtain ⟨cs, h1, _⟩ := h
  exact ⟨cs, h1⟩
end Go.Proofs.Ytiakbbokmllcdaa
