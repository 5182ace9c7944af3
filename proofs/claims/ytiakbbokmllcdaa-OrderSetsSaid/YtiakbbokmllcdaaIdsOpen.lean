/-
  A slice of ids that came in.
-/
import Derived.Test.YtiakbbokmllcdaaIdOpen
import Derived.Test.YtiakbbokmllcdaaIdList
import Derived.Deep.Slices
namespace Go.Proofs.Ytiakbbokmllcdaa
open Go.ChangeShapes Go.WideShapes Go.ChangeAt Go.RowKit

theorem flat_of (len : Nat) (F : Nat → List UInt8) (hF : ∀ i, i < len → (F i).length = 32) (i j : Nat) (hi : i < len) (hj : j < 32) : (flat ((List.range len).map F))[i * 32 + j]? = ((F i).map B)[j]? := by
  have hW : W32 ((List.range len).map F) := fun x hx => by
    obtain ⟨k, hk, rfl⟩ := List.mem_map.1 hx
    exact hF k (List.mem_range.1 hk)
  have h := flat_at hW i (by simpa using hi)
  have e : ((List.range len).map F).getD i [] = F i := by simp [hi]
  rw [e] at h
  have h2 : (((flat ((List.range len).map F)).drop (i * 32)).take 32)[j]? = ((F i).map B)[j]? := by rw [h]
  rw [List.getElem?_take, if_pos hj, List.getElem?_drop] at h2
  exact h2

theorem open_ids {H : Type} {enc : TypeId × Value → H} {W : World} {a : Option Addr} {len cap : Nat} {d : DataW H} {p : List MemPlace}
    (h : DataW.Trod enc Try.prog W 0 (fun _ => true) true 30 (.slice a len cap) d p) : ∃ l, IdsAt W a len cap l := by
  obtain ⟨fuel, hf⟩ := h
  have hc : Try.prog.cellsOf 23 = 32 := by kernel_rfl
  rcases Deep.open_slice Try.underlying30 hf with ⟨hcs, hx⟩ | ⟨x, l, c, m, n, D, Pl, hcs, _, hl, hm, hmm, hx, hel⟩
  · simp [Value.cells] at hcs
    obtain ⟨rfl, rfl, rfl⟩ := hcs
    exact ⟨[], IdsAt.nil W⟩
  · simp [Value.cells] at hcs
    obtain ⟨rfl, rfl, rfl⟩ := hcs
    simp only [ite_true] at hmm
    subst hmm
    rw [hc] at hel
    obtain ⟨F, hF⟩ := Deep.choose_lt (α := List UInt8) (p := fun i f => f.length = 32 ∧ W.cells? 0 (x.add (i * 32)) 32 = some (f.map B)) (fun i hi => by
      obtain ⟨cs', h1, h2⟩ := hel i hi
      obtain ⟨f, h3, h4⟩ := id_cells h2
      exact ⟨f, h3, by rw [h1, h4]⟩)
    refine ⟨(List.range len).map F, by simp, hl, by unfold maxLen at hm; omega, fun y hy => by
      obtain ⟨k, hk, rfl⟩ := List.mem_map.1 hy
      exact (hF k (by have := List.mem_range.1 hk; omega)).1, ?_⟩
    by_cases hc0 : m = 0
    · exact .inl ⟨by omega, hc0⟩
    · have hcell : ∀ i, i < m → ∀ r, r < 32 → W.cell? (x.add (i * 32 + r)) = ((F i).map B)[r]? := fun i hi r hr => by
        obtain ⟨_, _, h3⟩ := World.cells?_some (hF i hi).2
        have := h3 r hr
        rwa [Deep.add_add] at this
      have hF0 := hF 0 (by omega)
      have h0 := hcell 0 (by omega) 0 (by omega)
      rw [Nat.zero_mul, Nat.add_zero, List.getElem?_eq_getElem (by simp [hF0.1])] at h0
      have h1 := World.cell?_spot h0
      obtain ⟨b, off, spot⟩ := x
      have hspot : spot = none := by simpa [Addr.add] using h1
      subst hspot
      refine .inr ⟨b, off, rfl, fun j v hv => ?_⟩
      have hjl : j < len * 32 := by
        have := (List.getElem?_eq_some_iff.1 hv).1
        rw [flat_length (fun y hy => by
          obtain ⟨k, hk, rfl⟩ := List.mem_map.1 hy
          exact (hF k (by have := List.mem_range.1 hk; omega)).1)] at this
        simpa using this
      have hd : j = j / 32 * 32 + j % 32 := by omega
      have hq : j / 32 < len := by omega
      have h2 := hcell (j / 32) (by omega) (j % 32) (Nat.mod_lt _ (by omega))
      rw [← hd, Addr.add_lit] at h2
      rw [h2, ← flat_of len F (fun i hi => (hF i (by omega)).1) (j / 32) (j % 32) hq (Nat.mod_lt _ (by omega)), ← hd]
      exact hv
#print axioms open_ids
end Go.Proofs.Ytiakbbokmllcdaa
