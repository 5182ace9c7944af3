/-
  Slices that came in: runes with what they weigh; edits with what they weigh.
-/
import Derived.Test.YtbfaaphijgmabaaDoorMyOpen
import Derived.Test.YtbfaaphijgmabaaDoorMyEnd
import Derived.Lib.SmallJoins
import Derived.Deep.Slices
namespace Go.Proofs.YtbfaaphijgmabaaDoor
open Go.ChangeShapes Go.WideShapes Go.ChangeAt Go.RowKit
open Go.ChangeMaps (open_string shut_string)

/-- A slice of runes that came in, with what it weighs. -/
theorem open_runes_w {H : Type} {enc : TypeId × Value → H} {W : World} {a : Option Addr} {len cap : Nat} {d : DataW H} {p : List MemPlace}
    (h : DataW.Trod enc Tryd.prog W 0 (fun _ => true) true 22 (.slice a len cap) d p) :
    ∃ l, Runs W a len cap l ∧ ((d = .nil ∧ cap = 0) ∨ ∃ elems spare, d = .slice elems spare ∧ elems.length + spare.length = cap) := by
  obtain ⟨fuel, hf⟩ := h
  rcases open_ints Tryd.underlying22 Tryd.underlying21 (by kernel_rfl) hf with ⟨hcs, hx⟩ | ⟨x, l, c, zs, hcs, _, hl, hm, hz, hx, hcell, hwz⟩
  · simp [Value.cells] at hcs
    obtain ⟨rfl, rfl, rfl⟩ := hcs
    simp only [Prod.mk.injEq] at hx
    exact ⟨[], Runs.nil W, .inl ⟨hx.1, rfl⟩⟩
  · simp [Value.cells] at hcs
    obtain ⟨rfl, rfl, rfl⟩ := hcs
    simp only [ite_true] at hz
    simp only [Prod.mk.injEq] at hx
    refine ⟨zs.take len, ⟨by simp; omega, hl, by unfold maxLen at hm; omega, ?_⟩, .inr ⟨_, _, hx.1, ?_⟩⟩
    · by_cases hc : cap = 0
      · exact .inl ⟨by omega, hc⟩
      · have h0 := World.cell?_spot (hcell 0 (by omega))
        obtain ⟨b, off, spot⟩ := x
        have hspot : spot = none := by simpa [Addr.add] using h0
        subst hspot
        refine .inr ⟨b, off, rfl, fun j hj => ?_⟩
        have := hcell j (by omega)
        rw [Addr.add_lit] at this
        rw [this]
        simp [hj]
    · simp [lits]; omega
theorem runes_of_size {H : Type} {ts : List TypeId} {ds : List (DataW H)} (h : (DataW.weightsEach Tryd.prog ts ds).all (· ≤ reachBytes) = true) {j : Nat} {d : DataW H} {n cap : Nat} (hn : n ≤ cap)
    (ht : ts[j]? = some 22) (hd : ds[j]? = some d) (hb : (d = .nil ∧ cap = 0) ∨ ∃ elems spare, d = .slice elems spare ∧ elems.length + spare.length = cap) : n * 4 ≤ 140737488355328 := by
  rcases hb with ⟨_, rfl⟩ | ⟨elems, spare, rfl, rfl⟩
  · omega
  · have hb1 : Tryd.prog.bytesOf 21 = 4 := by kernel_rfl
    have := sized_slice h ht hd Tryd.underlying22
    rw [hb1] at this
    have hr : reachBytes = 140737488351232 := by decide
    omega

theorem three_of {α : Type} (cs : List α) (h : cs.length = 3) : ∃ u v x, cs = [u, v, x] := by
  match cs, h with
  | [u, v, x], _ => exact ⟨u, v, x, rfl⟩
theorem edit_cells {H : Type} {enc : TypeId × Value → H} {W : World} {n : Nat} {cs : List Value} {x : DataW H × List MemPlace}
    (h : DataW.trod enc Tryd.prog W 0 (fun _ => true) true n 39 cs = some x) : ∃ f : EdV, cs = edC f ∧ ∃ d0 d1, x.1 = .agg [d0, d1, .lit (.string f.s)] := by
  obtain ⟨xs, m, _, hx, hl, hlen, hfs⟩ := DataW.trod_struct Tryd.underlying39 h
  have c3 : Tryd.prog.cellsOf 39 = 3 := by kernel_rfl
  have ci : Tryd.prog.cellsOf 3 = 1 := by kernel_rfl
  have cs1 : Tryd.prog.cellsOf 9 = 1 := by kernel_rfl
  rw [c3] at hl
  obtain ⟨y0, y1, y2, rfl⟩ := three_of xs hlen
  obtain ⟨u0, u1, u2, rfl⟩ := three_of cs hl
  have e0 : DataW.trod enc Tryd.prog W 0 (fun _ => true) true m 3 (([u0, u1, u2].drop 0).take (Tryd.prog.cellsOf 3)) = some y0 := hfs 0 _ rfl
  have e1 : DataW.trod enc Tryd.prog W 0 (fun _ => true) true m 3 (([u0, u1, u2].drop 1).take (Tryd.prog.cellsOf 3)) = some y1 := hfs 1 _ rfl
  have e2 : DataW.trod enc Tryd.prog W 0 (fun _ => true) true m 9 (([u0, u1, u2].drop 2).take (Tryd.prog.cellsOf 9)) = some y2 := hfs 2 _ rfl
  rw [ci] at e0 e1
  rw [cs1] at e2
  have e0 : DataW.trod enc Tryd.prog W 0 (fun _ => true) true m 3 [u0] = some y0 := e0
  have e1 : DataW.trod enc Tryd.prog W 0 (fun _ => true) true m 3 [u1] = some y1 := e1
  have e2 : DataW.trod enc Tryd.prog W 0 (fun _ => true) true m 9 [u2] = some y2 := e2
  obtain ⟨z0, k0, _, _⟩ := DataW.trod_int Tryd.underlying3 e0
  obtain ⟨z1, k1, _, _⟩ := DataW.trod_int Tryd.underlying3 e1
  obtain ⟨s2, k2, d2, _⟩ := DataW.trod_string Tryd.underlying9 e2
  refine ⟨⟨z0, z1, s2.data.toList⟩, ?_, y0.1, y1.1, ?_⟩
  · show [u0, u1, u2] = [Value.int .i64 z0, Value.int .i64 z1, Value.string (strB s2.data.toList)]
    rw [strB_of, (List.cons.inj k0).1, (List.cons.inj k1).1, (List.cons.inj k2).1]
  · rw [hx, d2]; rfl
theorem weightsAll_memE {H : Type} {P : Program} {e : TypeId} : ∀ {l : List (DataW H)} {d : DataW H}, d ∈ l → ∀ x ∈ d.weights P e, x ∈ DataW.weightsAll P e l
  | [], d, h, _, _ => by cases h
  | y :: r, d, h, x, hx => by
    simp only [DataW.weightsAll, List.mem_append]
    rcases List.mem_cons.1 h with rfl | h
    · exact .inl hx
    · exact .inr (weightsAll_memE h x hx)
theorem edit_weights {H : Type} (f : EdV) (d0 d1 : DataW H) : f.s.length ∈ (DataW.agg [d0, d1, .lit (.string f.s)] : DataW H).weights Tryd.prog 39 := by
  simp [DataW.weights, Tryd.underlying39, DataW.weightsEach]
/-- Edits that came in. -/
theorem open_edits {H : Type} {enc : TypeId × Value → H} {W : World} {a : Option Addr} {len cap : Nat} {d : DataW H} {p : List MemPlace}
    (h : DataW.Trod enc Tryd.prog W 0 (fun _ => true) true 31 (.slice a len cap) d p) :
    ∃ L, AtG edK W a len cap L ∧ ∀ e ∈ L, e.s.length ∈ d.weights Tryd.prog 31 := by
  obtain ⟨fuel, hf⟩ := h
  have hc : Tryd.prog.cellsOf 39 = 3 := by kernel_rfl
  rcases Deep.open_slice Tryd.underlying31 hf with ⟨hcs, hx⟩ | ⟨x, l, c, m, n, D, Pl, hcs, _, hl, hm, hmm, hx, hel⟩
  · simp [Value.cells] at hcs
    obtain ⟨rfl, rfl, rfl⟩ := hcs
    exact ⟨[], AtG.nil, fun e he => by cases he⟩
  · simp [Value.cells] at hcs
    obtain ⟨rfl, rfl, rfl⟩ := hcs
    simp only [ite_true] at hmm
    subst hmm
    rw [hc] at hel
    obtain ⟨F, hF⟩ := Deep.choose_lt (α := EdV) (p := fun i f => W.cells? 0 (x.add (i * 3)) 3 = some (edC f) ∧ ∃ d0 d1, D i = .agg [d0, d1, .lit (.string f.s)]) (fun i hi => by
      obtain ⟨cs', h1, h2⟩ := hel i hi
      obtain ⟨f, h3, h4⟩ := edit_cells h2
      exact ⟨f, by rw [h1, h3], h4⟩)
    have hg : ∀ j, j < len → gd ((List.range len).map F) j = F j := fun j hj => by simp [gd, hj]
    refine ⟨(List.range len).map F, ⟨by simp, hl, by unfold maxLen at hm; omega, fun _ _ => trivial, ?_⟩, fun e he => ?_⟩
    · by_cases hc0 : m = 0
      · exact .inl ⟨by omega, hc0⟩
      · have hcell : ∀ i, i < m → ∀ t v, (edC (F i))[t]? = some v → W.cell? (x.add (i * 3 + t)) = some v := fun i hi t v hv => by
          obtain ⟨_, _, h3⟩ := World.cells?_some (hF i hi).1
          have ht : t < 3 := by
            rcases Nat.lt_or_ge t 3 with h | h
            · exact h
            · rw [List.getElem?_eq_none (by exact h)] at hv; cases hv
          have a0 := h3 t (by exact ht)
          rw [Deep.add_add] at a0
          rw [a0]
          exact hv
        have h1 := World.cell?_spot (hcell 0 (by omega) 0 _ rfl)
        obtain ⟨b, off, spot⟩ := x
        have hspot : spot = none := by simpa [Addr.add] using h1
        subst hspot
        refine .inr ⟨b, off, rfl, fun j hj t v hv => ?_⟩
        rw [hg j hj] at hv
        have := hcell j (by omega) t v hv
        rw [Addr.add_lit] at this
        show W.cell? ⟨b, off + j * 3 + t, none⟩ = _
        rw [show off + j * 3 + t = off + (j * 3 + t) by omega]
        exact this
    · obtain ⟨j, hj, rfl⟩ := List.mem_map.1 he
      have hj := List.mem_range.1 hj
      have hd : d = .slice ((List.range len).map D) ((List.range (m - len)).map fun j => D (len + j)) := congrArg (·.1) hx
      obtain ⟨d0, d1, h4⟩ := (hF j (by omega)).2
      have w1 := edit_weights (F j) d0 d1
      rw [← h4] at w1
      have hm2 : D j ∈ (List.range len).map D := List.mem_map.2 ⟨j, List.mem_range.2 hj, rfl⟩
      rw [hd]
      simp only [DataW.weights, Tryd.underlying31]
      exact List.mem_cons_of_mem _ (List.mem_append_left _ (weightsAll_memE hm2 _ w1))
theorem edits_of_size {H : Type} {ts : List TypeId} {ds : List (DataW H)} (h : (DataW.weightsEach Tryd.prog ts ds).all (· ≤ reachBytes) = true) {j : Nat} {t : TypeId} {d : DataW H} (ht : ts[j]? = some t) (hd : ds[j]? = some d) {L : List EdV} (hw : ∀ e ∈ L, e.s.length ∈ d.weights Tryd.prog t) : ∀ e ∈ L, e.s.length ≤ 140737488355328 := fun e he => by
  have := List.all_eq_true.1 h _ (DataW.weights_mem_each ht hd _ (hw e he))
  have hr : reachBytes = 140737488351232 := by decide
  simp at this
  omega
#print axioms open_edits
#print axioms runes_of_size
end Go.Proofs.YtbfaaphijgmabaaDoor
