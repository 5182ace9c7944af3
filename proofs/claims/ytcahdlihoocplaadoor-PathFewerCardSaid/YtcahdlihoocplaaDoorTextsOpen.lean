/-
  A slice of texts that came in: what its texts weigh.
-/
import Derived.Test.YtcahdlihoocplaaDoorPathOpen
import Derived.SizedLaws
namespace Go.Proofs.YtcahdlihoocplaaDoor
open Go.ChangeShapes Go.WideShapes Go.ChangeAt Go.RowKit

theorem weights_strs {H : Type} (P : Program) (e : TypeId) : ∀ (l : List ByteArray) (s : ByteArray), s ∈ l → s.data.toList.length ∈ DataW.weightsAll P e (strs (H := H) l)
  | [], s, h => by cases h
  | x :: r, s, h => by
    unfold strs
    rw [List.map_cons]
    simp only [DataW.weightsAll, List.mem_append]
    rcases List.mem_cons.1 h with rfl | h
    · left; simp [DataW.weights]
    · right; exact weights_strs P e r s h

theorem open_texts_w {H : Type} {enc : TypeId × Value → H} {W : World} {a : Option Addr} {len cap : Nat} {d : DataW H} {p : List MemPlace}
    (h : DataW.Trod enc Tryd.prog W 0 (fun _ => true) true 24 (.slice a len cap) d p) :
    ∃ l, At1 St W a len cap l ∧ ∀ j, j < len → (l.getD j default).length ∈ d.weights Tryd.prog 24 := by
  obtain ⟨fuel, hf⟩ := h
  rcases open_strings Tryd.underlying24 Tryd.underlying9 (by kernel_rfl) hf with ⟨hcs, hx⟩ | ⟨x, l, c, ss, hcs, _, hl, hm, hz, hx, hcell, hwz⟩
  · simp [Value.cells] at hcs
    obtain ⟨rfl, rfl, rfl⟩ := hcs
    exact ⟨[], At1.nil, fun j hj => by omega⟩
  · simp [Value.cells] at hcs
    obtain ⟨rfl, rfl, rfl⟩ := hcs
    simp only [ite_true] at hz
    refine ⟨(ss.take len).map fun s => s.data.toList, ⟨by simp; omega, hl, by unfold maxLen at hm; omega, ?_⟩, fun j hj => ?_⟩
    · by_cases hc : cap = 0
      · exact .inl ⟨by omega, hc⟩
      · have h0 := World.cell?_spot (hcell 0 (by omega))
        obtain ⟨b, off, spot⟩ := x
        have hspot : spot = none := by simpa [Addr.add] using h0
        subst hspot
        refine .inr ⟨b, off, rfl, fun j hj => ?_⟩
        have := hcell j (by omega)
        rw [Addr.add_lit] at this
        rw [this]
        show _ = some (Value.string (strB _))
        rw [strs_ofG hj (by omega)]
    · have hd : d = .slice (strs (ss.take len)) (strs (ss.drop len)) := congrArg (·.1) hx
      have hj2 : j < (ss.take len).length := by simp; omega
      have e : ((ss.take len).map fun s => s.data.toList).getD j default = ((ss.take len)[j]).data.toList := by
        rw [List.getD_eq_getElem?_getD, List.getElem?_map, List.getElem?_eq_getElem hj2]; rfl
      rw [e, hd]
      simp only [DataW.weights, Tryd.underlying24]
      exact List.mem_cons_of_mem _ (List.mem_append_left _ (weights_strs _ _ _ _ (List.getElem_mem hj2)))
theorem texts_of_size {H : Type} {ts : List TypeId} {ds : List (DataW H)} (h : (DataW.weightsEach Tryd.prog ts ds).all (· ≤ reachBytes) = true) {j : Nat} {t : TypeId} {d : DataW H} (ht : ts[j]? = some t) (hd : ds[j]? = some d) {n : Nat} (hn : n ∈ d.weights Tryd.prog t) : n ≤ 140737488355328 := by
  have := List.all_eq_true.1 h _ (DataW.weights_mem_each ht hd n hn)
  have hr : reachBytes = 140737488351232 := by decide
  simp at this
  omega
end Go.Proofs.YtcahdlihoocplaaDoor
