/-
  A slice literal of one number; a cell of a row of numbers.
-/
import Derived.Test.YtmenhbdapikpeaaIntSort
namespace Go.Proofs.Ytmenhbdapikpeaa
open Go.RowKit

theorem litN (w : World) (x : Nat) (T : TypeId) : At1 N (w.alloc (.cells #[N x] T)) (some ⟨w.heap.size, 0, none⟩) 1 1 [x] :=
  ⟨rfl, Nat.le_refl _, by omega, .inr ⟨_, 0, rfl, fun j hj => by
    obtain rfl : j = 0 := by omega
    rw [World.cell?_alloc_at _ _ _ _ rfl]
    rfl⟩⟩
theorem litAt (w : World) (g x : Nat) (T : TypeId) (hg : g = w.heap.size) : At1 N (w.alloc (.cells #[.int .i64 (x : Int)] T)) (some ⟨g, 0, none⟩) 1 1 [x] := hg ▸ litN w x T
theorem setCell_size (w : World) (p : Addr) (v : Value) : w.heap.size = (w.setCell p v).heap.size := by simp [World.setCell]
theorem ownN_cell {w : World} {base g n c : Nat} {L : List Nat} (h : Own1 N 3 w base (.slice (some ⟨g, 0, none⟩) n c) L) {j : Nat} (hj : j < n) : w.cell? ⟨g, j, none⟩ = some (.int .i64 ((L.getD j 0 : Nat) : Int)) := by
  have := h.at1.cell j hj
  rwa [Nat.zero_add] at this
end Go.Proofs.Ytmenhbdapikpeaa
