/-
  A slice of floats that came in.
-/
import Derived.Test.YtkafeadgjpglaaaOpen0
import Derived.Test.YtkafeadgjpglaaaRankC
import Derived.Test.YtkafeadgjpglaaaOne
import Derived.Deep.Slices
namespace Go.Proofs.Ytkafeadgjpglaaa
open Go.ChangeShapes Go.WideShapes Go.ChangeAt Go.RowKit

theorem flt_cell {H : Type} {enc : TypeId × Value → H} {P : Program} {W : World} {base : Nat} {sp : Nat → Bool} {held : Bool} {n : Nat} {t : TypeId} {v : Value} {x : DataW H × List MemPlace} (ht : P.underlying t = some (.float .f64))
    (h : DataW.trod enc P W base sp held n t [v] = some x) : ∃ b, v = F b ∧ b < 18446744073709551616 := by
  cases n with
  | zero => simp [DataW.trod] at h
  | succ n =>
    cases v with
    | float k b =>
      simp only [DataW.trod, ht] at h
      by_cases hw : k = .f64 ∧ (Lit.float .f64 b).wf = true
      · obtain ⟨rfl, hw2⟩ := hw
        exact ⟨b, rfl, f64_lt hw2⟩
      · simp [hw] at h
    | _ => simp [DataW.trod, ht] at h

theorem open_floats {H : Type} {enc : TypeId × Value → H} {W : World} {a : Option Addr} {len cap : Nat} {d : DataW H} {p : List MemPlace}
    (h : DataW.Trod enc Try.prog W 0 (fun _ => true) true 29 (.slice a len cap) d p) : ∃ l, At1 F W a len cap l ∧ W64 l := by
  obtain ⟨fuel, hf⟩ := h
  have hc : Try.prog.cellsOf 23 = 1 := by kernel_rfl
  rcases Deep.open_slice1 Try.underlying29 hc hf with ⟨hcs, hx⟩ | ⟨x, l, c, m, n, V, D, Pl, hcs, _, hl, hm, hmm, hx, hel⟩
  · simp [Value.cells] at hcs
    obtain ⟨rfl, rfl, rfl⟩ := hcs
    exact ⟨[], At1.nil, fun i => by simp⟩
  · simp [Value.cells] at hcs
    obtain ⟨rfl, rfl, rfl⟩ := hcs
    simp only [ite_true] at hmm
    subst hmm
    obtain ⟨f, hF⟩ := Deep.choose_lt (α := Nat) (p := fun i b => V i = F b ∧ b < 18446744073709551616) (fun i hi => flt_cell Try.underlying23 (hel i hi).2)
    refine ⟨(List.range len).map f, ⟨by simp, hl, by unfold maxLen at hm; omega, ?_⟩, fun i => ?_⟩
    · by_cases hc0 : m = 0
      · exact .inl ⟨by omega, hc0⟩
      · have h0 := World.cell?_spot (hel 0 (by omega)).1
        obtain ⟨b, off, spot⟩ := x
        have hspot : spot = none := by simpa [Addr.add] using h0
        subst hspot
        refine .inr ⟨b, off, rfl, fun j hj => ?_⟩
        have h2 := (hel j (by omega)).1
        rw [Addr.add_lit, (hF j (by omega)).1] at h2
        rw [h2]
        simp [hj]
    · rcases Nat.lt_or_ge i len with hi | hi
      · have e : ((List.range len).map f).getD i 0 = f i := by simp [hi]
        rw [e]; exact (hF i (by omega)).2
      · have e : ((List.range len).map f).getD i 0 = 0 := by
          simp only [List.getD_eq_getElem?_getD]
          rw [List.getElem?_eq_none (by simpa using hi)]
          rfl
        rw [e]; decide
end Go.Proofs.Ytkafeadgjpglaaa
