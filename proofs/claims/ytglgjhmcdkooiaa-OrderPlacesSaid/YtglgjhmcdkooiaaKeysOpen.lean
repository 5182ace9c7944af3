/-
  A slice of keys that came in, and its copy.
-/
import Derived.Test.YtglgjhmcdkooiaaKeysAt
import Derived.Test.YtglgjhmcdkooiaaIdOpen
import Derived.Deep.Slices
namespace Go.Proofs.Ytglgjhmcdkooiaa
open Go.ChangeShapes Go.WideShapes Go.ChangeAt Go.RowKit

theorem key_cells {H : Type} {enc : TypeId × Value → H} {W : World} {n : Nat} {cs : List Value} {x : DataW H × List MemPlace}
    (h : DataW.trod enc Try.prog W 0 (fun _ => true) true n 33 cs = some x) : ∃ k : KeyV, k.c.length = 32 ∧ cs = keyL k := by
  obtain ⟨xs, m, _, hx, hl', hlen, hfs⟩ := DataW.trod_struct Try.underlying33 h
  have c34 : Try.prog.cellsOf 33 = 34 := by kernel_rfl
  have c1 : Try.prog.cellsOf 3 = 1 := by kernel_rfl
  have c32 : Try.prog.cellsOf 31 = 32 := by kernel_rfl
  rw [c34] at hl'
  obtain ⟨y0, y1, y2, rfl⟩ : ∃ y0 y1 y2, xs = [y0, y1, y2] := by
    match xs, hlen with
    | [y0, y1, y2], _ => exact ⟨y0, y1, y2, rfl⟩
  have e0 : DataW.trod enc Try.prog W 0 (fun _ => true) true m 3 ((cs.drop 0).take (Try.prog.cellsOf 3)) = some y0 := hfs 0 _ rfl
  have e1 : DataW.trod enc Try.prog W 0 (fun _ => true) true m 31 ((cs.drop 1).take (Try.prog.cellsOf 31)) = some y1 := hfs 1 _ rfl
  have e2 : DataW.trod enc Try.prog W 0 (fun _ => true) true m 3 ((cs.drop 33).take (Try.prog.cellsOf 3)) = some y2 := hfs 2 _ rfl
  obtain ⟨z0, k0, _⟩ := DataW.trod_int Try.underlying3 e0
  obtain ⟨l, k1, k1'⟩ := id_cells e1
  obtain ⟨z2, k2, _⟩ := DataW.trod_int Try.underlying3 e2
  rw [c1] at k0 k2
  rw [c32] at k1'
  refine ⟨⟨z0, l, z2⟩, k1, ?_⟩
  have h1 : cs = cs.take 1 ++ ((cs.drop 1).take 32 ++ cs.drop 33) := by
    rw [show cs.drop 33 = (cs.drop 1).drop 32 from by rw [List.drop_drop], List.take_append_drop, List.take_append_drop]
  have h2 : cs.drop 33 = (cs.drop 33).take 1 := by rw [List.take_of_length_le (by simp; omega)]
  rw [h1, h2, k1', k2]
  rw [List.drop_zero] at k0
  rw [k0]
  rfl

theorem open_keys {H : Type} {enc : TypeId × Value → H} {W : World} {a : Option Addr} {len cap : Nat} {d : DataW H} {p : List MemPlace}
    (h : DataW.Trod enc Try.prog W 0 (fun _ => true) true 22 (.slice a len cap) d p) : ∃ K, KeysAt W a len cap K := by
  obtain ⟨fuel, hf⟩ := h
  have hc : Try.prog.cellsOf 33 = 34 := by kernel_rfl
  rcases Deep.open_slice Try.underlying22 hf with ⟨hcs, hx⟩ | ⟨x, l, c, m, n, D, Pl, hcs, _, hl, hm, hmm, hx, hel⟩
  · simp [Value.cells] at hcs
    obtain ⟨rfl, rfl, rfl⟩ := hcs
    exact ⟨[], rfl, Nat.le_refl _, by omega, (fun _ h => by cases h), .inl ⟨rfl, rfl⟩⟩
  · simp [Value.cells] at hcs
    obtain ⟨rfl, rfl, rfl⟩ := hcs
    simp only [ite_true] at hmm
    subst hmm
    rw [hc] at hel
    haveI : Inhabited KeyV := ⟨⟨0, [], 0⟩⟩
    obtain ⟨F, hF⟩ := Deep.choose_lt (α := KeyV) (p := fun i k => k.c.length = 32 ∧ W.cells? 0 (x.add (i * 34)) 34 = some (keyL k)) (fun i hi => by
      obtain ⟨cs', h1, h2⟩ := hel i hi
      obtain ⟨f, h3, h4⟩ := key_cells h2
      exact ⟨f, h3, by rw [h1, h4]⟩)
    refine ⟨(List.range len).map F, by simp, hl, by unfold maxLen at hm; omega, fun y hy => by
      obtain ⟨k, hk, rfl⟩ := List.mem_map.1 hy
      exact (hF k (by have := List.mem_range.1 hk; omega)).1, ?_⟩
    by_cases hc0 : m = 0
    · exact .inl ⟨by omega, hc0⟩
    · have hcell : ∀ i, i < m → ∀ r, r < 34 → W.cell? (x.add (i * 34 + r)) = (keyL (F i))[r]? := fun i hi r hr => by
        obtain ⟨_, _, h3⟩ := World.cells?_some (hF i hi).2
        have := h3 r hr
        rwa [Deep.add_add] at this
      have hF0 := hF 0 (by omega)
      have h0 := hcell 0 (by omega) 0 (by omega)
      have hl0 := keyL_length hF0.1
      rw [Nat.zero_mul, Nat.add_zero, List.getElem?_eq_getElem (by omega)] at h0
      have h1 := World.cell?_spot h0
      obtain ⟨b, off, spot⟩ := x
      have hspot : spot = none := by simpa [Addr.add] using h1
      subst hspot
      refine .inr ⟨b, off, rfl, fun j hj i v hv => ?_⟩
      have e : kOf ((List.range len).map F) j = F j := by unfold kOf; simp [hj]
      rw [e] at hv
      have hil : i < 34 := by
        have := (List.getElem?_eq_some_iff.1 hv).1
        rwa [keyL_length (hF j (by omega)).1] at this
      have h2 := hcell j (by omega) i hil
      rw [Addr.add_lit, ← Nat.add_assoc] at h2
      rw [h2]
      exact hv
#print axioms open_keys
end Go.Proofs.Ytglgjhmcdkooiaa
