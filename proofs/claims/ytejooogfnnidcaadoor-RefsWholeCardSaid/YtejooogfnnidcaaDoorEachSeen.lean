/-
  The walk of each over a text's runes: are all seen.
-/
import Derived.Test.YtejooogfnnidcaaDoorPathSmall
namespace Go.Proofs.YtejooogfnnidcaaDoor
open Go.RowKit

theorem all_stop {q : Nat → Bool} {L acc : List Nat} {n : Nat} {m : List Nat} (h : L = (acc ++ [n]) ++ m) (hn : q n = false) : L.all q = false := by
  rw [h, List.all_append, List.all_append]; simp [hn]

end Go.Proofs.YtejooogfnnidcaaDoor
