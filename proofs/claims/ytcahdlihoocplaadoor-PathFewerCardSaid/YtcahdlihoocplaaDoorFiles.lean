/-
  Slices of files (a path and its bytes): one that can be read, one that the call made itself.
-/
import Derived.Test.YtcahdlihoocplaaDoorOneG
import Derived.Test.YtcahdlihoocplaaDoorTreeMath
namespace Go.Proofs.YtcahdlihoocplaaDoor
open Go.RowKit

/-- The cells of files. -/
def fcells (L : List FileL) : List Value := L.flatMap fun f => [St f.1, St f.2]
theorem fcells_length (L : List FileL) : (fcells L).length = L.length * 2 := by
  induction L with
  | nil => rfl
  | cons f L ih => unfold fcells at ih ⊢; rw [List.flatMap_cons, List.length_append, ih]; simp; omega
theorem fcells_append (L M : List FileL) : fcells (L ++ M) = fcells L ++ fcells M := by simp [fcells]
theorem fcells_one (L : List FileL) : ∀ v ∈ fcells L, v.oneCell' = true := by
  intro v hv
  obtain ⟨f, _, h⟩ := List.mem_flatMap.1 hv
  simp at h
  rcases h with rfl | rfl <;> rfl
theorem fcells_at {L : List FileL} : ∀ {j : Nat}, j < L.length → (fcells L)[j * 2]? = some (St (L.getD j default).1) ∧ (fcells L)[j * 2 + 1]? = some (St (L.getD j default).2) := by
  induction L with
  | nil => intro j hj; simp at hj
  | cons f L ih =>
    intro j hj
    have e : fcells (f :: L) = St f.1 :: St f.2 :: fcells L := by simp [fcells]
    cases j with
    | zero => rw [e]; exact ⟨rfl, rfl⟩
    | succ j =>
      have h := ih (j := j) (by simpa using hj)
      rw [e, show (j + 1) * 2 = j * 2 + 1 + 1 from by omega]
      simp only [List.getElem?_cons_succ, List.getD_cons_succ]
      exact h

/-- A slice value reads as these files. -/
def FilesAt (w : World) (a : Option Addr) (n c : Nat) (L : List FileL) : Prop :=
  L.length = n ∧ n ≤ c ∧ c ≤ 9223372036854775807 ∧ ((n = 0 ∧ c = 0) ∨ ∃ b off, a = some ⟨b, off, none⟩ ∧ ∀ j, j < n → w.cell? ⟨b, off + j * 2, none⟩ = some (.string (strB (L.getD j default).1)) ∧ w.cell? ⟨b, off + j * 2 + 1, none⟩ = some (.string (strB (L.getD j default).2)))
section
variable {w w' : World} {a : Option Addr} {n c : Nat} {L : List FileL}
theorem FilesAt.nil : FilesAt w none 0 0 [] := ⟨rfl, Nat.le_refl _, by omega, .inl ⟨rfl, rfl⟩⟩
theorem FilesAt.below (h : FilesAt w a n c L) (hb : Below w.heap.size w w') : FilesAt w' a n c L := by
  obtain ⟨h1, h2, h3, h4⟩ := h
  refine ⟨h1, h2, h3, ?_⟩
  rcases h4 with h4 | ⟨b, off, ha, hc⟩
  · exact .inl h4
  · exact .inr ⟨b, off, ha, fun j hj => ⟨(hb.cell (World.block_lt_of_cell? _ _ (hc j hj).1)).trans (hc j hj).1, (hb.cell (World.block_lt_of_cell? _ _ (hc j hj).2)).trans (hc j hj).2⟩⟩
theorem FilesAt.some_ (h : FilesAt w a n c L) (hn : 0 < n) : ∃ b off, a = some ⟨b, off, none⟩ := by
  rcases h.2.2.2 with ⟨h0, _⟩ | ⟨b, off, ha, _⟩
  · omega
  · exact ⟨b, off, ha⟩
theorem FilesAt.cell {b off : Nat} (h : FilesAt w (some ⟨b, off, none⟩) n c L) (j : Nat) (hj : j < n) : w.cell? ⟨b, off + j * 2, none⟩ = some (.string (strB (L.getD j default).1)) ∧ w.cell? ⟨b, off + j * 2 + 1, none⟩ = some (.string (strB (L.getD j default).2)) := by
  rcases h.2.2.2 with ⟨h0, _⟩ | ⟨b', off', ha, hc⟩
  · omega
  · simp only [Option.some.injEq, Addr.mk.injEq, and_true] at ha
    obtain ⟨rfl, rfl⟩ := ha
    exact hc j hj
end
end Go.Proofs.YtcahdlihoocplaaDoor
