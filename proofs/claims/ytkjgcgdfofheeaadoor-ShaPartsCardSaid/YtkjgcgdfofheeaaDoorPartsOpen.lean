/-
  A slice of slices of bytes that came in, opened.
-/
import Derived.Test.YtkjgcgdfofheeaaDoorOpen
import Derived.Test.YtkjgcgdfofheeaaDoorShaEq
import Derived.Deep.Matrix
namespace Go.Proofs.YtkjgcgdfofheeaaDoor
open Go.ChangeShapes Go.WideShapes Go.ChangeAt Go.RowKit

theorem open_parts {H : Type} {enc : TypeId × Value → H} {W : World} {a : Option Addr} {len cap : Nat} {d : DataW H} {p : List MemPlace}
    (h : DataW.Trod enc Tryd.prog W 0 (fun _ => true) true 30 (.slice a len cap) d p) : ∃ ps, Parts W a len ps := by
  obtain ⟨fuel, hf⟩ := h
  rcases Go.Deep.open_int_rows Tryd.underlying30 Tryd.underlying22 Tryd.underlying5 (by kernel_rfl) (by kernel_rfl) hf with ⟨hcs, _⟩ | ⟨x, l, c, A, L, C, Z, hcs, _, hl, hm, _, hr⟩
  · simp [Value.cells] at hcs
    obtain ⟨rfl, rfl, rfl⟩ := hcs
    exact ⟨[], rfl, by omega, .inl rfl⟩
  · simp [Value.cells] at hcs
    obtain ⟨rfl, rfl, rfl⟩ := hcs
    refine ⟨(List.range len).map fun r => ((Z r).map fun n => UInt8.ofNat n.toNat).take (L r), by simp, by unfold maxLen at hm; omega, ?_⟩
    by_cases h0 : len = 0
    · exact .inl h0
    · right
      have hs := World.cell?_spot ((hr 0 (by omega)).1)
      obtain ⟨b, off, spot⟩ := x
      have hspot : spot = none := by simpa [Addr.add] using hs
      subst hspot
      refine ⟨b, off, rfl, fun j hj => ?_⟩
      obtain ⟨h1, h2, h3, h4, h5, h6, h7⟩ := hr j (by omega)
      refine ⟨A j, L j, C j, by rw [Addr.add_lit] at h1; exact h1, ?_⟩
      have hget : ((List.range len).map fun r => ((Z r).map fun n => UInt8.ofNat n.toNat).take (L r)).getD j [] = ((Z j).map fun n => UInt8.ofNat n.toNat).take (L j) := by simp [hj]
      rw [hget]
      refine ⟨by simp; omega, h2, by unfold maxLen at h3; omega, ?_⟩
      by_cases hc : C j = 0
      · exact .inl ⟨by omega, hc⟩
      · cases hA : A j with
        | none => exact absurd (h6 hA) hc
        | some y =>
          have hcell := (h7 y hA).2
          have h0' := World.cell?_spot (hcell 0 (by omega))
          obtain ⟨b', off', spot'⟩ := y
          have hspot' : spot' = none := by simpa [Addr.add] using h0'
          subst hspot'
          refine .inr ⟨b', off', rfl, fun k hk => ?_⟩
          have := hcell k (by omega)
          rw [Addr.add_lit] at this
          rw [this, bytes_of_ints h5 k (by omega)]
          simp [hk]
#print axioms open_parts
end Go.Proofs.YtkjgcgdfofheeaaDoor
