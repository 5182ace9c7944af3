/-
  Rows of floats that came in.
-/
import Derived.Test.YtkafeadgjpglaaaFltsOpen
import Derived.Test.YtkafeadgjpglaaaMatch
namespace Go.Proofs.Ytkafeadgjpglaaa
open Go.ChangeShapes Go.WideShapes Go.ChangeAt Go.RowKit

theorem flts_raw {H : Type} {enc : TypeId × Value → H} {W : World} {fuel : Nat} {v : Value} {x : DataW H × List MemPlace}
    (hf : DataW.trod enc Try.prog W 0 (fun _ => true) true fuel 29 [v] = some x) : ∃ a len cap l, v = .slice a len cap ∧ At1 F W a len cap l ∧ W64 l := by
  have hc : Try.prog.cellsOf 23 = 1 := by kernel_rfl
  rcases Deep.open_slice1 Try.underlying29 hc hf with ⟨hcs, hx⟩ | ⟨x, len, cap, m, n, V, D, Pl, hcs, _, hl, hm, hmm, hx, hel⟩
  · simp at hcs
    exact ⟨none, 0, 0, [], hcs, At1.nil, fun i => by simp⟩
  · simp at hcs
    simp only [ite_true] at hmm
    subst hmm
    obtain ⟨f, hF⟩ := Deep.choose_lt (α := Nat) (p := fun i b => V i = F b ∧ b < 18446744073709551616) (fun i hi => flt_cell Try.underlying23 (hel i hi).2)
    refine ⟨some x, len, m, (List.range len).map f, hcs, ⟨by simp, hl, by unfold maxLen at hm; omega, ?_⟩, fun i => ?_⟩
    · by_cases hc0 : m = 0
      · exact .inl ⟨by omega, hc0⟩
      · have h0 := World.cell?_spot (hel 0 (by omega)).1
        obtain ⟨b, off, spot⟩ := x
        have hspot : spot = none := by simpa [Addr.add] using h0
        subst hspot
        refine .inr ⟨b, off, rfl, fun j hj => ?_⟩
        have h2 := (hel j (by omega)).1
        rw [Addr.add_lit, (hF j (by omega)).1] at h2
        rw [h2]
        simp [hj]
    · rcases Nat.lt_or_ge i len with hi | hi
      · have e : ((List.range len).map f).getD i 0 = f i := by simp [hi]
        rw [e]; exact (hF i (by omega)).2
      · have e : ((List.range len).map f).getD i 0 = 0 := by
          simp only [List.getD_eq_getElem?_getD]
          rw [List.getElem?_eq_none (by simpa using hi)]
          rfl
        rw [e]; decide

theorem open_mat {H : Type} {enc : TypeId × Value → H} {W : World} {a : Option Addr} {len cap : Nat} {d : DataW H} {p : List MemPlace}
    (h : DataW.Trod enc Try.prog W 0 (fun _ => true) true 39 (.slice a len cap) d p) : ∃ M, MatAt W a len cap M ∧ ∀ r, W64 (M.getD r []) := by
  obtain ⟨fuel, hf⟩ := h
  have hc : Try.prog.cellsOf 29 = 1 := by kernel_rfl
  rcases Deep.open_slice1 Try.underlying39 hc hf with ⟨hcs, hx⟩ | ⟨x, l, c, m, n, V, D, Pl, hcs, _, hl, hm, hmm, hx, hel⟩
  · simp [Value.cells] at hcs
    obtain ⟨rfl, rfl, rfl⟩ := hcs
    exact ⟨[], ⟨rfl, Nat.le_refl _, by omega, .inl ⟨rfl, rfl⟩⟩, fun r i => by simp⟩
  · simp [Value.cells] at hcs
    obtain ⟨rfl, rfl, rfl⟩ := hcs
    simp only [ite_true] at hmm
    subst hmm
    obtain ⟨f, hF⟩ := Deep.choose_lt (α := List Nat) (p := fun i l => ∃ a1 c1, V i = .slice a1 l.length c1 ∧ At1 F W a1 l.length c1 l ∧ W64 l) (fun i hi => by
      obtain ⟨a1, n1, c1, l, h1, h2, h3⟩ := flts_raw (hel i hi).2
      exact ⟨l, a1, c1, by rw [h1, h2.1], by rw [h2.1]; exact h2, h3⟩)
    have e : ∀ j, j < len → ((List.range len).map f).getD j [] = f j := fun j hj => by simp [hj]
    refine ⟨(List.range len).map f, ⟨by simp, hl, by unfold maxLen at hm; omega, ?_⟩, fun r => ?_⟩
    · by_cases hc0 : m = 0
      · exact .inl ⟨by omega, hc0⟩
      · have h0 := World.cell?_spot (hel 0 (by omega)).1
        obtain ⟨b, off, spot⟩ := x
        have hspot : spot = none := by simpa [Addr.add] using h0
        subst hspot
        refine .inr ⟨b, off, rfl, fun j hj => ?_⟩
        obtain ⟨a1, c1, h1, h2, _⟩ := hF j (by omega)
        have h3 := (hel j (by omega)).1
        rw [Addr.add_lit, h1] at h3
        rw [e j hj]
        exact ⟨a1, c1, h3, h2⟩
    · rcases Nat.lt_or_ge r len with hr | hr
      · rw [e r hr]
        obtain ⟨_, _, _, _, h⟩ := hF r (by omega)
        exact h
      · have e2 : ((List.range len).map f).getD r [] = [] := by
          simp only [List.getD_eq_getElem?_getD]
          rw [List.getElem?_eq_none (by simpa using hr)]
          rfl
        rw [e2]
        exact fun i => by simp
end Go.Proofs.Ytkafeadgjpglaaa
