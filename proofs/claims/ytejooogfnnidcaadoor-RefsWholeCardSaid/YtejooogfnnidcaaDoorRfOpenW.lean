/-
  Refs and updates that came in: what they read as. What the row's list of variables gives; a world for the witness.
-/
import Derived.Test.YtejooogfnnidcaaDoorCards
import Derived.Test.YtejooogfnnidcaaDoorTie
import Derived.Test.YtejooogfnnidcaaDoorOpen
import Derived.Test.YtejooogfnnidcaaDoorIdCells
import Derived.Test.YtejooogfnnidcaaDoorRfMem
import Derived.Test.YtejooogfnnidcaaDoorUtGetAll
import Derived.Deep.Slices
import Derived.WalkKit
import Derived.ProofKit
import Derived.OpenShut
import Derived.Deep.DeepHandedRow
import Derived.Lib.LaidU8T
import Derived.Stop.LaidErr
namespace Go.Proofs.YtejooogfnnidcaaDoor
open Go.ChangeShapes Go.WideShapes Go.ChangeAt Go.RowKit

theorem first_data : Rows.laid_unicode_utf8_first = Lib.firstData := by kernel_rfl
theorem accept_data : (Rows.laid_unicode_utf8_acceptRanges : DataW Unit) = Lib.acceptData := by kernel_rfl
theorem tabs_of {W : World} (h : laidMetH Tryd.prog Rows.refsWholeRow.laid W) : Tabs W := by
  have h0 : laidMet Tryd.prog [("unicode/utf8.acceptRanges", Rows.laid_unicode_utf8_acceptRanges), ("unicode/utf8.first", Rows.laid_unicode_utf8_first)] W := h
  rw [first_data, accept_data] at h0
  exact utf8Tabs_of_reads (ρ := Tryd.lays260_ren) Tryd.lays260 ⟨by kernel_rfl, by kernel_rfl, by kernel_rfl, by kernel_rfl, by kernel_rfl, by kernel_rfl, by kernel_rfl⟩
    (Lib.laidMet.reads h0 (.tail _ (.head _))) (Lib.laidMet.reads h0 (.head _))
def firstO : Obj → Obj
  | .cells _ t frozen => .cells ((List.range 256).map fun c => Value.int .u8 (Lib.firstT c)).toArray t frozen
  | o => o
def acceptO : Obj → Obj
  | .cells _ t frozen => .cells ((List.range 16).flatMap fun i => [Value.int .u8 (Lib.accLo i), Value.int .u8 (Lib.accHi i)]).toArray t frozen
  | o => o
noncomputable def laidWorld (os : Os) : World :=
  { World.holding Tryd.prog os ⟨#[], #[], []⟩ with heap := ((World.holding Tryd.prog os ⟨#[], #[], []⟩).heap.modify 1 firstO).modify 2 acceptO }

section
variable {H : Type} {enc : TypeId × Value → H} {W : World} {n : Nat} {cs : List Value} {x : DataW H × List MemPlace}
theorem c1s : Tryd.prog.cellsOf 9 = 1 := by kernel_rfl
theorem c1u : Tryd.prog.cellsOf 5 = 1 := by kernel_rfl
theorem c32i : Tryd.prog.cellsOf 24 = 32 := by kernel_rfl
theorem c33n : Tryd.prog.cellsOf 55 = 33 := by kernel_rfl
theorem c66u : Tryd.prog.cellsOf 53 = 66 := by kernel_rfl
theorem c67e : Tryd.prog.cellsOf 59 = 67 := by kernel_rfl
theorem c36r : Tryd.prog.cellsOf 27 = 36 := by kernel_rfl
theorem c1n : Tryd.prog.cellsOf 22 = 1 := by kernel_rfl
theorem c1e : Tryd.prog.cellsOf 25 = 1 := by kernel_rfl
theorem cut1 (cs : List Value) (k m : Nat) : cs.drop k = (cs.drop k).take m ++ cs.drop (k + m) := by rw [← List.drop_drop, List.take_append_drop]
theorem named_cells (h : DataW.trod enc Tryd.prog W 0 (fun _ => true) true n 55 cs = some x) : ∃ y : RName, y.2.length = 32 ∧ cs = rnL y := by
  obtain ⟨xs, m, _, hx, hl', hlen, hfs⟩ := DataW.trod_struct Tryd.underlying55 h
  rw [c33n] at hl'
  obtain ⟨y0, y1, rfl⟩ : ∃ y0 y1, xs = [y0, y1] := by
    match xs, hlen with
    | [y0, y1], _ => exact ⟨y0, y1, rfl⟩
  have e0 : DataW.trod enc Tryd.prog W 0 (fun _ => true) true m 9 ((cs.drop 0).take (Tryd.prog.cellsOf 9)) = some y0 := hfs 0 _ rfl
  have e1 : DataW.trod enc Tryd.prog W 0 (fun _ => true) true m 24 ((cs.drop 1).take (Tryd.prog.cellsOf 24)) = some y1 := hfs 1 _ rfl
  obtain ⟨s0, k0, _, _⟩ := DataW.trod_string Tryd.underlying9 e0
  obtain ⟨l, k1, k1'⟩ := id_cells e1
  rw [c1s] at k0
  rw [c32i] at k1'
  refine ⟨(s0.data.toList, l), k1, ?_⟩
  have h2 : cs.drop 1 = (cs.drop 1).take 32 := by rw [List.take_of_length_le (by simp; omega)]
  have h1 : cs = (cs.drop 0).take 1 ++ cs.drop 1 := cut1 cs 0 1
  rw [h1, k0, h2, k1']
  unfold rnL
  rw [strB_of]; rfl
theorem update_cells (h : DataW.trod enc Tryd.prog W 0 (fun _ => true) true n 53 cs = some x) : ∃ y : UpdV, UpOk y ∧ cs = upL y := by
  obtain ⟨xs, m, _, hx, hl', hlen, hfs⟩ := DataW.trod_struct Tryd.underlying53 h
  rw [c66u] at hl'
  obtain ⟨y0, y1, y2, y3, rfl⟩ : ∃ y0 y1 y2 y3, xs = [y0, y1, y2, y3] := by
    match xs, hlen with
    | [y0, y1, y2, y3], _ => exact ⟨y0, y1, y2, y3, rfl⟩
  have e0 : DataW.trod enc Tryd.prog W 0 (fun _ => true) true m 5 ((cs.drop 0).take (Tryd.prog.cellsOf 5)) = some y0 := hfs 0 _ rfl
  have e1 : DataW.trod enc Tryd.prog W 0 (fun _ => true) true m 9 ((cs.drop 1).take (Tryd.prog.cellsOf 9)) = some y1 := hfs 1 _ rfl
  have e2 : DataW.trod enc Tryd.prog W 0 (fun _ => true) true m 24 ((cs.drop 2).take (Tryd.prog.cellsOf 24)) = some y2 := hfs 2 _ rfl
  have e3 : DataW.trod enc Tryd.prog W 0 (fun _ => true) true m 24 ((cs.drop 34).take (Tryd.prog.cellsOf 24)) = some y3 := hfs 3 _ rfl
  obtain ⟨z0, k0, _, w0⟩ := DataW.trod_int Tryd.underlying5 e0
  obtain ⟨s1, k1, _, _⟩ := DataW.trod_string Tryd.underlying9 e1
  obtain ⟨l2, k2, k2'⟩ := id_cells e2
  obtain ⟨l3, k3, k3'⟩ := id_cells e3
  have hb : 0 ≤ z0 ∧ z0 ≤ 255 := by simpa [Lit.wf, IntKind.min, IntKind.max, IntKind.signed, IntKind.bits] using w0
  rw [c1u] at k0
  rw [c1s] at k1
  rw [c32i] at k2' k3'
  refine ⟨⟨z0.toNat, s1.data.toList, l2, l3⟩, ⟨by show z0.toNat < 256; omega, k2, k3⟩, ?_⟩
  have h4 : cs.drop 34 = (cs.drop 34).take 32 := by rw [List.take_of_length_le (by simp; omega)]
  have h1 : cs = (cs.drop 0).take 1 ++ ((cs.drop 1).take 1 ++ ((cs.drop 2).take 32 ++ cs.drop 34)) := by rw [← cut1 cs 2 32, ← cut1 cs 1 1, ← cut1 cs 0 1]; rfl
  rw [h1, h4, k0, k1, k2', k3']
  unfold upL
  rw [strB_of, show ((z0.toNat : Nat) : Int) = z0 from by omega]
  rfl
theorem entry_cells (h : DataW.trod enc Tryd.prog W 0 (fun _ => true) true n 59 cs = some x) : ∃ y : EntV, UpOk y.upd ∧ cs = enL y := by
  obtain ⟨xs, m, _, hx, hl', hlen, hfs⟩ := DataW.trod_struct Tryd.underlying59 h
  rw [c67e] at hl'
  obtain ⟨y0, y1, rfl⟩ : ∃ y0 y1, xs = [y0, y1] := by
    match xs, hlen with
    | [y0, y1], _ => exact ⟨y0, y1, rfl⟩
  have e0 : DataW.trod enc Tryd.prog W 0 (fun _ => true) true m 53 ((cs.drop 0).take (Tryd.prog.cellsOf 53)) = some y0 := hfs 0 _ rfl
  have e1 : DataW.trod enc Tryd.prog W 0 (fun _ => true) true m 9 ((cs.drop 66).take (Tryd.prog.cellsOf 9)) = some y1 := hfs 1 _ rfl
  obtain ⟨u, hu, k0⟩ := update_cells e0
  obtain ⟨s1, k1, _, _⟩ := DataW.trod_string Tryd.underlying9 e1
  rw [c66u] at k0
  rw [c1s] at k1
  refine ⟨⟨u, s1.data.toList⟩, hu, ?_⟩
  have h4 : cs.drop 66 = (cs.drop 66).take 1 := by rw [List.take_of_length_le (by simp; omega)]
  have h1 : cs = (cs.drop 0).take 66 ++ cs.drop 66 := cut1 cs 0 66
  rw [h1, h4, k0, k1]
  unfold enL
  rw [strB_of]
theorem slice_cells {α : Type} [Inhabited α] (K : Kind α) {T E : TypeId} (hU : Tryd.prog.underlying T = some (.slice E)) (hc : Tryd.prog.cellsOf E = K.k)
    (hE : ∀ {n : Nat} {cs : List Value} {x : DataW H × List MemPlace}, DataW.trod enc Tryd.prog W 0 (fun _ => true) true n E cs = some x → ∃ y : α, K.ok y ∧ cs = K.cells y)
    (h : DataW.trod enc Tryd.prog W 0 (fun _ => true) true n T cs = some x) : ∃ a len cap L, cs = [.slice a len cap] ∧ AtG K W a len cap L := by
  rcases Deep.open_slice hU h with ⟨hcs, hx⟩ | ⟨x, l, c, m, n, D, Pl, hcs, _, hl, hm, hmm, hx, hel⟩
  · exact ⟨none, 0, 0, [], hcs, AtG.nil⟩
  · simp only [ite_true] at hmm
    subst hmm
    rw [hc] at hel
    obtain ⟨F, hF⟩ := Deep.choose_lt (α := α) (p := fun i k => K.ok k ∧ W.cells? 0 (x.add (i * K.k)) K.k = some (K.cells k)) (fun i hi => by
      obtain ⟨cs', h1, h2⟩ := hel i hi
      obtain ⟨f, h3, h4⟩ := hE h2
      exact ⟨f, h3, by rw [h1, h4]⟩)
    refine ⟨some x, l, m, (List.range l).map F, hcs, by simp, hl, by unfold maxLen at hm; omega, fun y hy => by
      obtain ⟨k, hk, rfl⟩ := List.mem_map.1 hy
      exact (hF k (by have := List.mem_range.1 hk; omega)).1, ?_⟩
    have hkp := K.pos
    by_cases hc0 : m = 0
    · exact .inl ⟨by omega, hc0⟩
    · have hcell : ∀ i, i < m → ∀ r, r < K.k → W.cell? (x.add (i * K.k + r)) = (K.cells (F i))[r]? := fun i hi r hr => by
        obtain ⟨_, _, h3⟩ := World.cells?_some (hF i hi).2
        have := h3 r hr
        rwa [Deep.add_add] at this
      have hlen : ∀ i, i < m → (K.cells (F i)).length = K.k := fun i hi => K.len (F i) (hF i hi).1
      have h0 := hcell 0 (by omega) 0 hkp
      rw [Nat.zero_mul, Nat.add_zero, List.getElem?_eq_getElem (by rw [hlen 0 (by omega)]; exact hkp)] at h0
      have h1 := World.cell?_spot h0
      obtain ⟨b, off, spot⟩ := x
      have hspot : spot = none := by simpa [Addr.add] using h1
      subst hspot
      refine .inr ⟨b, off, rfl, fun j hj i v hv => ?_⟩
      have e : gd ((List.range l).map F) j = F j := by unfold gd; simp [hj]
      rw [e] at hv
      have hil : i < K.k := by
        have := (List.getElem?_eq_some_iff.1 hv).1
        rwa [hlen j (by omega)] at this
      have h2 := hcell j (by omega) i hil
      rw [Addr.add_lit, ← Nat.add_assoc] at h2
      rw [h2]
      exact hv
theorem refs_cells (h : DataW.trod enc Tryd.prog W 0 (fun _ => true) true n 27 cs = some x) : ∃ (S : RfS) (r : RefsV), RfIn W S r ∧ cs = rfL S r.head r.at_ := by
  obtain ⟨xs, m, _, hx, hl', hlen, hfs⟩ := DataW.trod_struct Tryd.underlying27 h
  rw [c36r] at hl'
  obtain ⟨y0, y1, y2, y3, y4, rfl⟩ : ∃ y0 y1 y2 y3 y4, xs = [y0, y1, y2, y3, y4] := by
    match xs, hlen with
    | [y0, y1, y2, y3, y4], _ => exact ⟨y0, y1, y2, y3, y4, rfl⟩
  have e0 : DataW.trod enc Tryd.prog W 0 (fun _ => true) true m 22 ((cs.drop 0).take (Tryd.prog.cellsOf 22)) = some y0 := hfs 0 _ rfl
  have e1 : DataW.trod enc Tryd.prog W 0 (fun _ => true) true m 22 ((cs.drop 1).take (Tryd.prog.cellsOf 22)) = some y1 := hfs 1 _ rfl
  have e2 : DataW.trod enc Tryd.prog W 0 (fun _ => true) true m 9 ((cs.drop 2).take (Tryd.prog.cellsOf 9)) = some y2 := hfs 2 _ rfl
  have e3 : DataW.trod enc Tryd.prog W 0 (fun _ => true) true m 24 ((cs.drop 3).take (Tryd.prog.cellsOf 24)) = some y3 := hfs 3 _ rfl
  have e4 : DataW.trod enc Tryd.prog W 0 (fun _ => true) true m 25 ((cs.drop 35).take (Tryd.prog.cellsOf 25)) = some y4 := hfs 4 _ rfl
  obtain ⟨a0, n0, c0, L0, k0, h0⟩ := slice_cells rnK Tryd.underlying22 c33n (fun h => named_cells h) e0
  obtain ⟨a1, n1, c1, L1, k1, h1⟩ := slice_cells rnK Tryd.underlying22 c33n (fun h => named_cells h) e1
  obtain ⟨s2, k2, _, _⟩ := DataW.trod_string Tryd.underlying9 e2
  obtain ⟨l, k3, k3'⟩ := id_cells e3
  obtain ⟨a4, n4, c4, L4, k4, h4⟩ := slice_cells enK Tryd.underlying25 c67e (fun h => entry_cells h) e4
  rw [c1n] at k0 k1
  rw [c1s] at k2
  rw [c32i] at k3'
  rw [c1e] at k4
  refine ⟨⟨a0, n0, c0, a1, n1, c1, a4, n4, c4⟩, ⟨L0, L1, s2.data.toList, l, L4⟩, ⟨h0, h1, h4, k3⟩, ?_⟩
  have h5 : cs.drop 35 = (cs.drop 35).take 1 := by rw [List.take_of_length_le (by simp; omega)]
  have hh : cs = (cs.drop 0).take 1 ++ ((cs.drop 1).take 1 ++ ((cs.drop 2).take 1 ++ ((cs.drop 3).take 32 ++ cs.drop 35))) := by rw [← cut1 cs 3 32, ← cut1 cs 2 1, ← cut1 cs 1 1, ← cut1 cs 0 1]; rfl
  rw [hh, h5, k0, k1, k2, k3', k4]
  unfold rfL
  rw [strB_of]; rfl
end
set_option maxRecDepth 100000 in
theorem open_refs_v {H : Type} {enc : TypeId × Value → H} {W : World} {base : Nat} {v : Value} {d : DataW H} {p : List MemPlace} (hv : Value.okWide Tryd.prog W .any base 27 v)
    (h : DataW.Trod enc Tryd.prog W 0 (fun _ => true) true 27 v d p) : ∃ (S : RfS) (r : RefsV), RfIn W S r ∧ v = .agg (rfC S r.head r.at_) := by
  have hs : ∃ cs, v = .agg cs := by
    simp only [Value.okWide, Tryd.underlying27] at hv
    obtain ⟨cs, h1, _⟩ := hv
    exact ⟨cs, h1⟩
  obtain ⟨cs, rfl⟩ := hs
  obtain ⟨fuel, hf⟩ := h
  obtain ⟨S, r, hI, hc⟩ := refs_cells hf
  refine ⟨S, r, hI, congrArg Value.agg ?_⟩
  rw [← Array.toList_inj, show (rfC S r.head r.at_).toList = rfL S r.head r.at_ from by simp [rfC]]
  exact hc
set_option maxRecDepth 100000 in
theorem open_update_v {H : Type} {enc : TypeId × Value → H} {W : World} {base : Nat} {v : Value} {d : DataW H} {p : List MemPlace} (hv : Value.okWide Tryd.prog W .any base 53 v)
    (h : DataW.Trod enc Tryd.prog W 0 (fun _ => true) true 53 v d p) : ∃ u : UpdV, UpOk u ∧ v = .agg (upL u).toArray := by
  have hs : ∃ cs, v = .agg cs := by
    simp only [Value.okWide, Tryd.underlying53] at hv
    obtain ⟨cs, h1, _⟩ := hv
    exact ⟨cs, h1⟩
  obtain ⟨cs, rfl⟩ := hs
  obtain ⟨fuel, hf⟩ := h
  obtain ⟨u, hu, hc⟩ := update_cells hf
  refine ⟨u, hu, congrArg Value.agg ?_⟩
  rw [← Array.toList_inj]
  exact hc
/-- Updates that came in. -/
theorem open_updates {H : Type} {enc : TypeId × Value → H} {W : World} {a : Option Addr} {len cap : Nat} {d : DataW H} {p : List MemPlace}
    (h : DataW.Trod enc Tryd.prog W 0 (fun _ => true) true 44 (.slice a len cap) d p) : ∃ L, AtG upK W a len cap L := by
  obtain ⟨fuel, hf⟩ := h
  obtain ⟨a', n', c', L, hc, hL⟩ := slice_cells upK Tryd.underlying44 c66u (fun h => update_cells h) hf
  simp [Value.cells] at hc
  obtain ⟨rfl, rfl, rfl⟩ := hc
  exact ⟨L, hL⟩
#print axioms open_refs_v
end Go.Proofs.YtejooogfnnidcaaDoor
