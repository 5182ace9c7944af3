/-
  Slices that came in: runes with what they weigh; edits with what they weigh.
-/
import Derived.Test.YtbfaaphijgmabaaDoorMyOpen
import Derived.Test.YtbfaaphijgmabaaDoorMyEnd
import Derived.Lib.SmallJoins
import Derived.Deep.Slices
namespace Go.Proofs.YtbfaaphijgmabaaDoor
open Go.ChangeShapes Go.WideShapes Go.ChangeAt Go.RowKit
open Go.ChangeMaps (open_string shut_string)

/-- A slice of runes that came in, with what it weighs. -/
theorem open_runes_w {H : Type} {enc : TypeId × Value → H} {W : World} {a : Option Addr} {len cap : Nat} {d : DataW H} {p : List MemPlace}
    (h : DataW.Trod enc Tryd.prog W 0 (fun _ => true) true 22 (.slice a len cap) d p) :
    ∃ l, Runs W a len cap l ∧ ((d = .nil ∧ cap = 0) ∨ ∃ elems spare, d = .slice elems spare ∧ elems.length + spare.length = cap) := by
  obtain ⟨fuel, hf⟩ := h
  rcases open_ints Tryd.underlying22 Tryd.underlying21 (by kernel_rfl) hf with ⟨hcs, hx⟩ | ⟨x, l, c, zs, hcs, _, hl, hm, hz, hx, hcell, hwz⟩
  · simp [Value.cells] at hcs
    obtain ⟨rfl, rfl, rfl⟩ := hcs
    simp only [Prod.mk.injEq] at hx
    exact ⟨[], Runs.nil W, .inl ⟨hx.1, rfl⟩⟩
  · simp [Value.cells] at hcs
    obtain ⟨rfl, rfl, rfl⟩ := hcs
    simp only [ite_true] at hz
    simp only [Prod.mk.injEq] at hx
    refine ⟨zs.take len, ⟨by simp; omega, hl, by unfold maxLen at hm; omega, ?_⟩, .inr ⟨_, _, hx.1, ?_⟩⟩
    · by_cases hc : cap = 0
      · exact .inl ⟨by omega, hc⟩
      · have h0 := World.cell?_spot (hcell 0 (by omega))
        obtain ⟨b, off, spot⟩ := x
        have hspot : spot = none := by simpa [Addr.add] using h0
        subst hspot
        refine .inr ⟨b, off, rfl, fun j hj => ?_⟩
        have := hcell j (by omega)
        rw [Addr.add_lit] at this
        rw [this]
        simp [hj]
    · simp [lits]; omega
theorem runes_of_size {H : Type} {ts : List TypeId} {ds : List (DataW H)} (h : (DataW.weightsEach Tryd.prog ts ds).all (· ≤ reachBytes) = true) {j : Nat} {d : DataW H} {n cap : Nat} (hn : n ≤ cap)
    (ht : ts[j]? = some 22) (hd : ds[j]? = some d) (hb : (d = .nil ∧ cap = 0) ∨ ∃ elems spare, d = .slice elems spare ∧ elems.length + spare.length = cap) : n * 4 ≤ 140737488355328 := by
  rcases hb with ⟨_, rfl⟩ | ⟨elems, spare, rfl, rfl⟩
  · omega
  · have hb1 : Tryd.prog.bytesOf 21 = 4 := by kernel_rfl
    have := sized_slice h ht hd Tryd.underlying22
    rw [hb1] at this
    have hr : reachBytes = 140737488351232 := by decide
    omega
#print axioms runes_of_size
end Go.Proofs.YtbfaaphijgmabaaDoor
