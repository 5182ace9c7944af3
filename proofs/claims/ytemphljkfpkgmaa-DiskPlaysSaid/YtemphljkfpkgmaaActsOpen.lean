/-
  Acts that came in: what they read as.
-/
import Derived.Test.YtemphljkfpkgmaaOpen
import Derived.Test.YtemphljkfpkgmaaActMem
import Derived.Lib.SmallJoins
import Derived.Deep.Slices
namespace Go.Proofs.Ytemphljkfpkgmaa
open Go.ChangeShapes Go.WideShapes Go.ChangeAt Go.RowKit
open Go.ChangeMaps (open_string shut_string)

/-- A slice of numbers that came in. -/
theorem open_nums {H : Type} {enc : TypeId × Value → H} {W : World} {a : Option Addr} {len cap : Nat} {d : DataW H} {p : List MemPlace}
    (h : DataW.Trod enc Try.prog W 0 (fun _ => true) true 27 (.slice a len cap) d p) :
    ∃ l, At1 I W a len cap l ∧ ∀ z ∈ l, -9223372036854775808 ≤ z ∧ z ≤ 9223372036854775807 := by
  obtain ⟨fuel, hf⟩ := h
  rcases open_ints Try.underlying27 Try.underlying3 (by kernel_rfl) hf with ⟨hcs, hx⟩ | ⟨x, l, c, zs, hcs, _, hl, hm, hz, hx, hcell, hwz⟩
  · simp [Value.cells] at hcs
    obtain ⟨rfl, rfl, rfl⟩ := hcs
    exact ⟨[], At1.nil, fun z hz => by cases hz⟩
  · simp [Value.cells] at hcs
    obtain ⟨rfl, rfl, rfl⟩ := hcs
    simp only [ite_true] at hz
    refine ⟨zs.take len, ⟨by simp; omega, hl, by unfold maxLen at hm; omega, ?_⟩, fun z hz' => ?_⟩
    · by_cases hc : cap = 0
      · exact .inl ⟨by omega, hc⟩
      · have h0 := World.cell?_spot (hcell 0 (by omega))
        obtain ⟨b, off, spot⟩ := x
        have hspot : spot = none := by simpa [Addr.add] using h0
        subst hspot
        refine .inr ⟨b, off, rfl, fun j hj => ?_⟩
        have := hcell j (by omega)
        rw [Addr.add_lit] at this
        rw [this]
        have hj2 : j < zs.length := by omega
        simp [I, hj, hj2]
    · have := hwz z (List.mem_of_mem_take hz')
      simpa [Lit.wf, IntKind.min, IntKind.max, IntKind.signed, IntKind.bits] using this

theorem six_of {α : Type} (cs : List α) (h : cs.length = 6) : ∃ u0 u1 u2 u3 u4 u5, cs = [u0, u1, u2, u3, u4, u5] := by
  match cs, h with
  | [u0, u1, u2, u3, u4, u5], _ => exact ⟨u0, u1, u2, u3, u4, u5, rfl⟩

/-- An act that came in. -/
theorem open_actIn {H : Type} {enc : TypeId × Value → H} {W : World} {n : Nat} {cs : List Value} {x : DataW H × List MemPlace}
    (h : DataW.trod enc Try.prog W 0 (fun _ => true) true n 37 cs = some x) : ∃ y : ActV, cs = y.cells.toList ∧ ActIn W y := by
  obtain ⟨xs, m, _, hx, hl, hlen, hfs⟩ := DataW.trod_struct Try.underlying37 h
  have c6 : Try.prog.cellsOf 37 = 6 := by kernel_rfl
  rw [c6] at hl
  obtain ⟨y0, y1, y2, y3, y4, y5, rfl⟩ := six_of xs hlen
  obtain ⟨u0, u1, u2, u3, u4, u5, rfl⟩ := six_of cs hl
  have wi : Try.prog.cellsOf 3 = 1 := by kernel_rfl
  have ws : Try.prog.cellsOf 9 = 1 := by kernel_rfl
  have wb : Try.prog.cellsOf 35 = 1 := by kernel_rfl
  have wn : Try.prog.cellsOf 27 = 1 := by kernel_rfl
  have f0 : DataW.trod enc Try.prog W 0 (fun _ => true) true m 3 (([u0, u1, u2, u3, u4, u5].drop 0).take (Try.prog.cellsOf 3)) = some y0 := hfs 0 _ rfl
  have f1 : DataW.trod enc Try.prog W 0 (fun _ => true) true m 9 (([u0, u1, u2, u3, u4, u5].drop 1).take (Try.prog.cellsOf 9)) = some y1 := hfs 1 _ rfl
  have f2 : DataW.trod enc Try.prog W 0 (fun _ => true) true m 9 (([u0, u1, u2, u3, u4, u5].drop 2).take (Try.prog.cellsOf 9)) = some y2 := hfs 2 _ rfl
  have f3 : DataW.trod enc Try.prog W 0 (fun _ => true) true m 35 (([u0, u1, u2, u3, u4, u5].drop 3).take (Try.prog.cellsOf 35)) = some y3 := hfs 3 _ rfl
  have f4 : DataW.trod enc Try.prog W 0 (fun _ => true) true m 3 (([u0, u1, u2, u3, u4, u5].drop 4).take (Try.prog.cellsOf 3)) = some y4 := hfs 4 _ rfl
  have f5 : DataW.trod enc Try.prog W 0 (fun _ => true) true m 27 (([u0, u1, u2, u3, u4, u5].drop 5).take (Try.prog.cellsOf 27)) = some y5 := hfs 5 _ rfl
  rw [wi] at f0 f4
  rw [ws] at f1 f2
  rw [wb] at f3
  rw [wn] at f5
  have f0 : DataW.trod enc Try.prog W 0 (fun _ => true) true m 3 [u0] = some y0 := f0
  have f1 : DataW.trod enc Try.prog W 0 (fun _ => true) true m 9 [u1] = some y1 := f1
  have f2 : DataW.trod enc Try.prog W 0 (fun _ => true) true m 9 [u2] = some y2 := f2
  have f3 : DataW.trod enc Try.prog W 0 (fun _ => true) true m 35 [u3] = some y3 := f3
  have f4 : DataW.trod enc Try.prog W 0 (fun _ => true) true m 3 [u4] = some y4 := f4
  have f5 : DataW.trod enc Try.prog W 0 (fun _ => true) true m 27 [u5] = some y5 := f5
  obtain ⟨z, e0, _, _⟩ := DataW.trod_int Try.underlying3 f0
  obtain ⟨s, e1, _, _⟩ := DataW.trod_string Try.underlying9 f1
  obtain ⟨t, e2, _, _⟩ := DataW.trod_string Try.underlying9 f2
  obtain ⟨a, k, c, e3⟩ := Go.Joins.slice_form Try.underlying35 f3
  obtain ⟨q, e4, _, wq⟩ := DataW.trod_int Try.underlying3 f4
  obtain ⟨a5, k5, c5, e5⟩ := Go.Joins.slice_form Try.underlying27 f5
  obtain rfl := (List.cons.inj e0).1
  obtain rfl := (List.cons.inj e1).1
  obtain rfl := (List.cons.inj e2).1
  obtain rfl := (List.cons.inj e3).1
  obtain rfl := (List.cons.inj e4).1
  obtain rfl := (List.cons.inj e5).1
  obtain ⟨l, hb, _⟩ := open_bytes (a := a) (len := k) (cap := c) (d := y3.1) (p := y3.2) ⟨m, f3⟩
  obtain ⟨l5, h5, z5⟩ := open_nums (a := a5) (len := k5) (cap := c5) (d := y5.1) (p := y5.2) ⟨m, f5⟩
  have hq : q ≤ 9223372036854775807 := by
    simp [Lit.wf, IntKind.min, IntKind.max, IntKind.signed, IntKind.bits] at wq
    omega
  exact ⟨⟨z, s, t, a, k, c, l, q, a5, k5, c5, l5⟩, rfl, ⟨hb, h5, hq, z5⟩⟩

theorem open_acts {H : Type} {enc : TypeId × Value → H} {W : World} {a : Option Addr} {len cap : Nat} {d : DataW H} {p : List MemPlace}
    (h : DataW.Trod enc Try.prog W 0 (fun _ => true) true 22 (.slice a len cap) d p) : ∃ L, ActsAt W a len cap L := by
  obtain ⟨fuel, hf⟩ := h
  have hc : Try.prog.cellsOf 37 = 6 := by kernel_rfl
  rcases Deep.open_slice Try.underlying22 hf with ⟨hcs, hx⟩ | ⟨x, l, c, m, n, D, Pl, hcs, _, hl, hm, hmm, hx, hel⟩
  · simp [Value.cells] at hcs
    obtain ⟨rfl, rfl, rfl⟩ := hcs
    exact ⟨[], ActsAt.nil⟩
  · simp [Value.cells] at hcs
    obtain ⟨rfl, rfl, rfl⟩ := hcs
    simp only [ite_true] at hmm
    subst hmm
    rw [hc] at hel
    obtain ⟨F, hF⟩ := Deep.choose_lt (α := ActV) (p := fun i f => W.cells? 0 (x.add (i * 6)) 6 = some f.cells.toList ∧ ActIn W f) (fun i hi => by
      obtain ⟨cs', h1, h2⟩ := hel i hi
      obtain ⟨f, h3, h4⟩ := open_actIn h2
      exact ⟨f, by rw [h1, h3], h4⟩)
    have hg : ∀ j, j < len → ((List.range len).map F).getD j default = F j := fun j hj => by simp [hj]
    refine ⟨(List.range len).map F, ⟨by simp, hl, by unfold maxLen at hm; omega, ?_, fun j hj => by rw [hg j hj]; exact (hF j (by omega)).2⟩⟩
    by_cases hc0 : m = 0
    · exact .inl ⟨by omega, hc0⟩
    · have hcell : ∀ i, i < m → ∀ q v, (F i).cells[q]? = some v → W.cell? (x.add (i * 6 + q)) = some v := fun i hi q v hv => by
        obtain ⟨_, _, h3⟩ := World.cells?_some (hF i hi).1
        have hq : q < 6 := by
          rcases Nat.lt_or_ge q 6 with h | h
          · exact h
          · rw [Array.getElem?_eq_none (by simpa using h)] at hv; cases hv
        have a0 := h3 q (by simpa using hq)
        rw [Deep.add_add] at a0
        rw [a0]
        simpa using hv
      have h1 := World.cell?_spot (hcell 0 (by omega) 0 _ rfl)
      obtain ⟨b, off, spot⟩ := x
      have hspot : spot = none := by simpa [Addr.add] using h1
      subst hspot
      refine .inr ⟨b, off, rfl, fun j hj q v hv => ?_⟩
      rw [hg j hj] at hv
      have a0 := hcell j (by omega) q v hv
      rw [Addr.add_lit] at a0
      rw [← a0, Nat.add_assoc]
#print axioms open_acts
end Go.Proofs.Ytemphljkfpkgmaa
