/-
  Slices of files that came in: what they read as, what they weigh (hunk's).
-/
import Derived.Test.YtfoalaoanpbmeaaDoorHkOpen
import Derived.Test.YtfoalaoanpbmeaaDoorGrp6
import Derived.Test.YtfoalaoanpbmeaaDoorGrp12
import Derived.SizedLaws
import Derived.Deep.Slices
namespace Go.Proofs.YtfoalaoanpbmeaaDoor
open Go.ChangeShapes Go.WideShapes Go.ChangeAt Go.RowKit

theorem strs_ofG {ss : List ByteArray} {n j : Nat} (hj : j < n) (hn : n ≤ ss.length) : strB (((ss.take n).map fun s => s.data.toList).getD j default) = ss.getD j ByteArray.empty := by
  have h1 : j < ss.length := by omega
  simp [hj, h1, strB_of]

theorem weights_strs {H : Type} (P : Program) (e : TypeId) : ∀ (l : List ByteArray) (s : ByteArray), s ∈ l → s.data.toList.length ∈ DataW.weightsAll P e (strs (H := H) l)
  | [], s, h => by cases h
  | x :: r, s, h => by
    unfold strs
    rw [List.map_cons]
    simp only [DataW.weightsAll, List.mem_append]
    rcases List.mem_cons.1 h with rfl | h
    · left; simp [DataW.weights]
    · right; exact weights_strs P e r s h

theorem open_texts_w {H : Type} {enc : TypeId × Value → H} {W : World} {a : Option Addr} {len cap : Nat} {d : DataW H} {p : List MemPlace}
    (h : DataW.Trod enc Tryd.prog W 0 (fun _ => true) true 32 (.slice a len cap) d p) :
    ∃ l, At1 St W a len cap l ∧ ∀ j, j < len → (l.getD j default).length ∈ d.weights Tryd.prog 32 := by
  obtain ⟨fuel, hf⟩ := h
  rcases open_strings Tryd.underlying32 Tryd.underlying9 (by kernel_rfl) hf with ⟨hcs, hx⟩ | ⟨x, l, c, ss, hcs, _, hl, hm, hz, hx, hcell, hwz⟩
  · simp [Value.cells] at hcs
    obtain ⟨rfl, rfl, rfl⟩ := hcs
    exact ⟨[], At1.nil, fun j hj => by omega⟩
  · simp [Value.cells] at hcs
    obtain ⟨rfl, rfl, rfl⟩ := hcs
    simp only [ite_true] at hz
    refine ⟨(ss.take len).map fun s => s.data.toList, ⟨by simp; omega, hl, by unfold maxLen at hm; omega, ?_⟩, fun j hj => ?_⟩
    · by_cases hc : cap = 0
      · exact .inl ⟨by omega, hc⟩
      · have h0 := World.cell?_spot (hcell 0 (by omega))
        obtain ⟨b, off, spot⟩ := x
        have hspot : spot = none := by simpa [Addr.add] using h0
        subst hspot
        refine .inr ⟨b, off, rfl, fun j hj => ?_⟩
        have := hcell j (by omega)
        rw [Addr.add_lit] at this
        rw [this]
        show _ = some (Value.string (strB _))
        rw [strs_ofG hj (by omega)]
    · have hd : d = .slice (strs (ss.take len)) (strs (ss.drop len)) := congrArg (·.1) hx
      have hj2 : j < (ss.take len).length := by simp; omega
      have e : ((ss.take len).map fun s => s.data.toList).getD j default = ((ss.take len)[j]).data.toList := by
        rw [List.getD_eq_getElem?_getD, List.getElem?_map, List.getElem?_eq_getElem hj2]; rfl
      rw [e, hd]
      simp only [DataW.weights, Tryd.underlying32]
      exact List.mem_cons_of_mem _ (List.mem_append_left _ (weights_strs _ _ _ _ (List.getElem_mem hj2)))
theorem texts_of_size {H : Type} {ts : List TypeId} {ds : List (DataW H)} (h : (DataW.weightsEach Tryd.prog ts ds).all (· ≤ reachBytes) = true) {j : Nat} {t : TypeId} {d : DataW H} (ht : ts[j]? = some t) (hd : ds[j]? = some d) {n : Nat} (hn : n ∈ d.weights Tryd.prog t) : n ≤ 140737488355328 := by
  have := List.all_eq_true.1 h _ (DataW.weights_mem_each ht hd n hn)
  have hr : reachBytes = 140737488351232 := by decide
  simp at this
  omega

theorem two_of {α : Type} (cs : List α) (h : cs.length = 2) : ∃ u v, cs = [u, v] := by
  match cs, h with
  | [u, v], _ => exact ⟨u, v, rfl⟩
theorem file_cells {H : Type} {enc : TypeId × Value → H} {W : World} {n : Nat} {cs : List Value} {x : DataW H × List MemPlace}
    (h : DataW.trod enc Tryd.prog W 0 (fun _ => true) true n 38 cs = some x) : ∃ f : FileL, cs = [St f.1, St f.2] ∧ x.1 = .agg [.lit (.string f.1), .lit (.string f.2)] := by
  obtain ⟨xs, m, _, hx, hl, hlen, hfs⟩ := DataW.trod_struct Tryd.underlying38 h
  have c2 : Tryd.prog.cellsOf 38 = 2 := by kernel_rfl
  have c1 : Tryd.prog.cellsOf 9 = 1 := by kernel_rfl
  rw [c2] at hl
  obtain ⟨y0, y1, rfl⟩ : ∃ y0 y1, xs = [y0, y1] := by
    match xs, hlen with
    | [y0, y1], _ => exact ⟨y0, y1, rfl⟩
  have e0 : DataW.trod enc Tryd.prog W 0 (fun _ => true) true m 9 ((cs.drop 0).take (Tryd.prog.cellsOf 9)) = some y0 := hfs 0 _ rfl
  have e1 : DataW.trod enc Tryd.prog W 0 (fun _ => true) true m 9 ((cs.drop 1).take (Tryd.prog.cellsOf 9)) = some y1 := hfs 1 _ rfl
  obtain ⟨s0, k0, d0, _⟩ := DataW.trod_string Tryd.underlying9 e0
  obtain ⟨s1, k1, d1, _⟩ := DataW.trod_string Tryd.underlying9 e1
  rw [c1] at k0 k1
  refine ⟨(s0.data.toList, s1.data.toList), ?_, ?_⟩
  · show cs = [Value.string (strB s0.data.toList), Value.string (strB s1.data.toList)]
    rw [strB_of, strB_of]
    obtain ⟨u, v, rfl⟩ : ∃ u v, cs = [u, v] := two_of cs hl
    have k0' : [u] = [Value.string s0] := k0
    have k1' : [v] = [Value.string s1] := k1
    rw [(List.cons.inj k0').1, (List.cons.inj k1').1]
  · rw [hx, d0, d1]; rfl

theorem weightsAll_mem {H : Type} {P : Program} {e : TypeId} : ∀ {l : List (DataW H)} {d : DataW H}, d ∈ l → ∀ x ∈ d.weights P e, x ∈ DataW.weightsAll P e l
  | [], d, h, _, _ => by cases h
  | y :: r, d, h, x, hx => by
    simp only [DataW.weightsAll, List.mem_append]
    rcases List.mem_cons.1 h with rfl | h
    · exact .inl hx
    · exact .inr (weightsAll_mem h x hx)

theorem file_weights {H : Type} (f : FileL) : f.1.length ∈ (DataW.agg [.lit (.string f.1), .lit (.string f.2)] : DataW H).weights Tryd.prog 38 ∧ f.2.length ∈ (DataW.agg [.lit (.string f.1), .lit (.string f.2)] : DataW H).weights Tryd.prog 38 := by
  simp [DataW.weights, Tryd.underlying38, DataW.weightsEach]

theorem open_files {H : Type} {enc : TypeId × Value → H} {W : World} {a : Option Addr} {len cap : Nat} {d : DataW H} {p : List MemPlace}
    (h : DataW.Trod enc Tryd.prog W 0 (fun _ => true) true 36 (.slice a len cap) d p) :
    ∃ L, FilesAt W a len cap L ∧ ∀ j, j < len → (L.getD j default).1.length ∈ d.weights Tryd.prog 36 ∧ (L.getD j default).2.length ∈ d.weights Tryd.prog 36 := by
  obtain ⟨fuel, hf⟩ := h
  have hc : Tryd.prog.cellsOf 38 = 2 := by kernel_rfl
  rcases Deep.open_slice Tryd.underlying36 hf with ⟨hcs, hx⟩ | ⟨x, l, c, m, n, D, Pl, hcs, _, hl, hm, hmm, hx, hel⟩
  · simp [Value.cells] at hcs
    obtain ⟨rfl, rfl, rfl⟩ := hcs
    exact ⟨[], FilesAt.nil, fun j hj => by omega⟩
  · simp [Value.cells] at hcs
    obtain ⟨rfl, rfl, rfl⟩ := hcs
    simp only [ite_true] at hmm
    subst hmm
    rw [hc] at hel
    obtain ⟨F, hF⟩ := Deep.choose_lt (α := FileL) (p := fun i f => W.cells? 0 (x.add (i * 2)) 2 = some [St f.1, St f.2] ∧ D i = .agg [.lit (.string f.1), .lit (.string f.2)]) (fun i hi => by
      obtain ⟨cs', h1, h2⟩ := hel i hi
      obtain ⟨f, h3, h4⟩ := file_cells h2
      exact ⟨f, by rw [h1, h3], h4⟩)
    have hg : ∀ j, j < len → ((List.range len).map F).getD j default = F j := fun j hj => by simp [hj]
    refine ⟨(List.range len).map F, ⟨by simp, hl, by unfold maxLen at hm; omega, ?_⟩, fun j hj => ?_⟩
    · by_cases hc0 : m = 0
      · exact .inl ⟨by omega, hc0⟩
      · have hcell : ∀ i, i < m → W.cell? (x.add (i * 2)) = some (St (F i).1) ∧ W.cell? (x.add (i * 2 + 1)) = some (St (F i).2) := fun i hi => by
          obtain ⟨_, _, h3⟩ := World.cells?_some (hF i hi).1
          have a0 := h3 0 (by omega)
          have a1 := h3 1 (by omega)
          rw [Deep.add_add] at a0 a1
          exact ⟨a0, a1⟩
        have h1 := World.cell?_spot (hcell 0 (by omega)).1
        obtain ⟨b, off, spot⟩ := x
        have hspot : spot = none := by simpa [Addr.add] using h1
        subst hspot
        refine .inr ⟨b, off, rfl, fun j hj => ?_⟩
        obtain ⟨a0, a1⟩ := hcell j (by omega)
        rw [Addr.add_lit] at a0 a1
        rw [hg j hj]
        exact ⟨a0, a1⟩
    · have hd : d = .slice ((List.range len).map D) ((List.range (m - len)).map fun j => D (len + j)) := congrArg (·.1) hx
      obtain ⟨w1, w2⟩ := file_weights (H := H) (F j)
      rw [← (hF j (by omega)).2] at w1 w2
      have hm2 : D j ∈ (List.range len).map D := List.mem_map.2 ⟨j, List.mem_range.2 hj, rfl⟩
      rw [hg j hj, hd]
      simp only [DataW.weights, Tryd.underlying36]
      exact ⟨List.mem_cons_of_mem _ (List.mem_append_left _ (weightsAll_mem hm2 _ w1)), List.mem_cons_of_mem _ (List.mem_append_left _ (weightsAll_mem hm2 _ w2))⟩
end Go.Proofs.YtfoalaoanpbmeaaDoor
