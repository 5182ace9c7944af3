/-
  An id that came in by value.
-/
import Derived.Test.YtglgjhmcdkooiaaUpto
namespace Go.Proofs.Ytglgjhmcdkooiaa
open Go.ChangeShapes Go.WideShapes Go.ChangeAt Go.RowKit

theorem okWide_id {W : World} {base : Nat} {v : Value} (h : Value.okWide Try.prog W .any base 31 v) : ∃ cs, v = .agg cs := by
  simp only [Value.okWide, Try.underlying31] at h
  obtain ⟨cs, h1, _⟩ := h
  exact ⟨cs, h1⟩
end Go.Proofs.Ytglgjhmcdkooiaa
