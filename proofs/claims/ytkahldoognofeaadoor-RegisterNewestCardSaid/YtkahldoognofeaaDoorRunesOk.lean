/-
  The walks of the document's runes, Is, Author, Note, Bytes; of the program's Author, Note, Bytes.
-/
import Derived.Test.YtkahldoognofeaaDoorPtAll
import Derived.Test.YtkahldoognofeaaDoorUtRunAll
import Derived.Test.YtkahldoognofeaaDoorPathMath
namespace Go.Proofs.YtkahldoognofeaaDoor
open Go.RowKit

theorem Runs.cell_ {w : World} {b off n c : Nat} {l : List Int} (h : Runs w (some ⟨b, off, none⟩) n c l) (j : Nat) (hj : j < n) : w.cell? ⟨b, off + j, none⟩ = some (.int .i32 (l.getD j 0)) := by
  rcases h.2.2.2 with ⟨h0, _⟩ | ⟨b', off', ha, hc⟩
  · omega
  · simp only [Option.some.injEq, Addr.mk.injEq, and_true] at ha
    obtain ⟨rfl, rfl⟩ := ha
    exact hc j hj
theorem Runs.addr_ {w : World} {a : Option Addr} {n c : Nat} {l : List Int} (h : Runs w a n c l) (hn : 0 < n) : ∃ b off, a = some ⟨b, off, none⟩ := by
  rcases h.2.2.2 with ⟨h0, _⟩ | ⟨b, off, ha, _⟩
  · omega
  · exact ⟨b, off, ha⟩
theorem take_seen {L : List Nat} {p : Nat} (hp : p < L.length) : (L.take (p + 1)).all seenF = ((L.take p).all seenF && seenF (L.getD p 0)) := by
  rw [List.take_succ_eq_append_getElem hp, List.all_append]; simp [hp]
theorem no_seen {L : List Nat} {p : Nat} (hp : p < L.length) (h : seenF (L.getD p 0) = false) : L.all seenF = false := by
  rw [← List.take_append_drop (p + 1) L, List.all_append, take_seen hp, h]; simp
theorem zs_at {L : List Nat} {j : Nat} (h : j < L.length) : (zs L).getD j 0 = ((L.getD j 0 : Nat) : Int) := by simp [zs, h]
theorem seenF_iff (n : Nat) : seenF n = true ↔ 32 ≤ n ∧ n ≠ 127 := by simp [seenF]

end Go.Proofs.YtkahldoognofeaaDoor
