/-
  Claims that came in: what they read as.
-/
import Derived.Test.YtipoielcmaegaaaGreatDoorIdCells
import Derived.Test.YtipoielcmaegaaaGreatDoorRegMem
import Derived.Deep.Slices
namespace Go.Proofs.YtipoielcmaegaaaGreatDoor
open Go.ChangeShapes Go.WideShapes Go.ChangeAt Go.RowKit

theorem keyc_cells {H : Type} {enc : TypeId × Value → H} {W : World} {n : Nat} {cs : List Value} {x : DataW H × List MemPlace}
    (h : DataW.trod enc Tryz.prog W 0 (fun _ => true) true n 35 cs = some x) : ∃ k : KeyV, k.c.length = 32 ∧ cs = keyL k ∧ ∃ l, KlK k l := by
  have h0 := h
  obtain ⟨xs, m, _, hx, hl', hlen, hfs⟩ := DataW.trod_struct Tryz.underlying35 h
  have c34 : Tryz.prog.cellsOf 35 = 34 := by kernel_rfl
  have c1 : Tryz.prog.cellsOf 3 = 1 := by kernel_rfl
  have c32 : Tryz.prog.cellsOf 33 = 32 := by kernel_rfl
  rw [c34] at hl'
  obtain ⟨y0, y1, y2, rfl⟩ : ∃ y0 y1 y2, xs = [y0, y1, y2] := by
    match xs, hlen with
    | [y0, y1, y2], _ => exact ⟨y0, y1, y2, rfl⟩
  have e0 : DataW.trod enc Tryz.prog W 0 (fun _ => true) true m 3 ((cs.drop 0).take (Tryz.prog.cellsOf 3)) = some y0 := hfs 0 _ rfl
  have e1 : DataW.trod enc Tryz.prog W 0 (fun _ => true) true m 33 ((cs.drop 1).take (Tryz.prog.cellsOf 33)) = some y1 := hfs 1 _ rfl
  have e2 : DataW.trod enc Tryz.prog W 0 (fun _ => true) true m 3 ((cs.drop 33).take (Tryz.prog.cellsOf 3)) = some y2 := hfs 2 _ rfl
  obtain ⟨z0, k0, _⟩ := DataW.trod_int Tryz.underlying3 e0
  obtain ⟨l, k1, k1'⟩ := id_cells e1
  obtain ⟨z2, k2, _⟩ := DataW.trod_int Tryz.underlying3 e2
  rw [c1] at k0 k2
  rw [c32] at k1'
  have hk : cs = keyL ⟨z0, l, z2⟩ := by
    have h1 : cs = cs.take 1 ++ ((cs.drop 1).take 32 ++ cs.drop 33) := by
      rw [show cs.drop 33 = (cs.drop 1).drop 32 from by rw [List.drop_drop], List.take_append_drop, List.take_append_drop]
    have h2 : cs.drop 33 = (cs.drop 33).take 1 := by rw [List.take_of_length_le (by simp; omega)]
    rw [h1, h2, k1', k2]
    rw [List.drop_zero] at k0
    rw [k0]
    rfl
  refine ⟨⟨z0, l, z2⟩, k1, hk, ?_⟩
  have hT : DataW.Trod enc Tryz.prog W 0 (fun _ => true) true 35 (.agg (keyC ⟨z0, l, z2⟩)) x.1 x.2 := by
    refine ⟨n, ?_⟩
    rw [show (Value.agg (keyC ⟨z0, l, z2⟩)).cells.toList = cs from by rw [hk]; rfl]
    exact h0
  refine ⟨_, (keyOf_asKey (by kernel_rfl) (by kernel_rfl) ?_ hT).1⟩
  simp only [Value.formed, Tryz.underlying35, c34]
  rw [show (keyC ⟨z0, l, z2⟩).size = 34 from keyL_length k1]
  rfl

theorem claim_cells {H : Type} {enc : TypeId × Value → H} {W : World} {n : Nat} {cs : List Value} {x : DataW H × List MemPlace}
    (h : DataW.trod enc Tryz.prog W 0 (fun _ => true) true n 45 cs = some x) : ∃ y : ClaimV, ClOk y ∧ cs = claimL y := by
  obtain ⟨xs, m, _, hx, hl', hlen, hfs⟩ := DataW.trod_struct Tryz.underlying45 h
  have c70 : Tryz.prog.cellsOf 45 = 70 := by kernel_rfl
  have c34 : Tryz.prog.cellsOf 35 = 34 := by kernel_rfl
  have c1 : Tryz.prog.cellsOf 5 = 1 := by kernel_rfl
  have c1' : Tryz.prog.cellsOf 9 = 1 := by kernel_rfl
  rw [c70] at hl'
  obtain ⟨y0, y1, y2, y3, rfl⟩ : ∃ y0 y1 y2 y3, xs = [y0, y1, y2, y3] := by
    match xs, hlen with
    | [y0, y1, y2, y3], _ => exact ⟨y0, y1, y2, y3, rfl⟩
  have e0 : DataW.trod enc Tryz.prog W 0 (fun _ => true) true m 35 ((cs.drop 0).take (Tryz.prog.cellsOf 35)) = some y0 := hfs 0 _ rfl
  have e1 : DataW.trod enc Tryz.prog W 0 (fun _ => true) true m 35 ((cs.drop 34).take (Tryz.prog.cellsOf 35)) = some y1 := hfs 1 _ rfl
  have e2 : DataW.trod enc Tryz.prog W 0 (fun _ => true) true m 5 ((cs.drop 68).take (Tryz.prog.cellsOf 5)) = some y2 := hfs 2 _ rfl
  have e3 : DataW.trod enc Tryz.prog W 0 (fun _ => true) true m 9 ((cs.drop 69).take (Tryz.prog.cellsOf 9)) = some y3 := hfs 3 _ rfl
  obtain ⟨k, hk, hkc, hl⟩ := keyc_cells e0
  obtain ⟨d, hd, hdc, hld⟩ := keyc_cells e1
  obtain ⟨z2, k2, _, w2⟩ := DataW.trod_int Tryz.underlying5 e2
  obtain ⟨s3, k3, _, _⟩ := DataW.trod_string Tryz.underlying9 e3
  have hb : 0 ≤ z2 ∧ z2 ≤ 255 := by simpa [Lit.wf, IntKind.min, IntKind.max, IntKind.signed, IntKind.bits] using w2
  rw [c1] at k2
  rw [c1'] at k3
  rw [c34] at hkc hdc
  rw [List.drop_zero] at hkc
  refine ⟨⟨k, d, z2.toNat, s3.data.toList⟩, ⟨hk, hd, hl, hld, by show z2.toNat < 256; omega⟩, ?_⟩
  have h1 : cs = cs.take 34 ++ ((cs.drop 34).take 34 ++ ((cs.drop 68).take 1 ++ cs.drop 69)) := by
    rw [show cs.drop 69 = (cs.drop 68).drop 1 from by rw [List.drop_drop], List.take_append_drop, show cs.drop 68 = (cs.drop 34).drop 34 from by rw [List.drop_drop], List.take_append_drop, List.take_append_drop]
  have h2 : cs.drop 69 = (cs.drop 69).take 1 := by rw [List.take_of_length_le (by simp; omega)]
  rw [h1, h2, hkc, hdc, k2, k3]
  unfold claimL
  rw [strB_of, show ((z2.toNat : Nat) : Int) = z2 from by omega]
  rfl

theorem open_claims {H : Type} {enc : TypeId × Value → H} {W : World} {a : Option Addr} {len cap : Nat} {d : DataW H} {p : List MemPlace}
    (h : DataW.Trod enc Tryz.prog W 0 (fun _ => true) true 22 (.slice a len cap) d p) : ∃ L, AtG clK W a len cap L := by
  obtain ⟨fuel, hf⟩ := h
  have hc : Tryz.prog.cellsOf 45 = 70 := by kernel_rfl
  rcases Deep.open_slice Tryz.underlying22 hf with ⟨hcs, hx⟩ | ⟨x, l, c, m, n, D, Pl, hcs, _, hl, hm, hmm, hx, hel⟩
  · simp [Value.cells] at hcs
    obtain ⟨rfl, rfl, rfl⟩ := hcs
    exact ⟨[], AtG.nil⟩
  · simp [Value.cells] at hcs
    obtain ⟨rfl, rfl, rfl⟩ := hcs
    simp only [ite_true] at hmm
    subst hmm
    rw [hc] at hel
    obtain ⟨F, hF⟩ := Deep.choose_lt (α := ClaimV) (p := fun i k => ClOk k ∧ W.cells? 0 (x.add (i * 70)) 70 = some (claimL k)) (fun i hi => by
      obtain ⟨cs', h1, h2⟩ := hel i hi
      obtain ⟨f, h3, h4⟩ := claim_cells h2
      exact ⟨f, h3, by rw [h1, h4]⟩)
    refine ⟨(List.range len).map F, by simp, hl, by unfold maxLen at hm; omega, fun y hy => by
      obtain ⟨k, hk, rfl⟩ := List.mem_map.1 hy
      exact (hF k (by have := List.mem_range.1 hk; omega)).1, ?_⟩
    by_cases hc0 : m = 0
    · exact .inl ⟨by omega, hc0⟩
    · have hcell : ∀ i, i < m → ∀ r, r < 70 → W.cell? (x.add (i * 70 + r)) = (claimL (F i))[r]? := fun i hi r hr => by
        obtain ⟨_, _, h3⟩ := World.cells?_some (hF i hi).2
        have := h3 r hr
        rwa [Deep.add_add] at this
      have hF0 := hF 0 (by omega)
      have h0 := hcell 0 (by omega) 0 (by omega)
      have hl0 := claimL_len hF0.1.1 hF0.1.2.1
      rw [Nat.zero_mul, Nat.add_zero, List.getElem?_eq_getElem (by omega)] at h0
      have h1 := World.cell?_spot h0
      obtain ⟨b, off, spot⟩ := x
      have hspot : spot = none := by simpa [Addr.add] using h1
      subst hspot
      refine .inr ⟨b, off, rfl, fun j hj i v hv => ?_⟩
      have e : gd ((List.range len).map F) j = F j := by unfold gd; simp [hj]
      rw [e] at hv
      have hil : i < 70 := by
        have := (List.getElem?_eq_some_iff.1 hv).1
        have h2 : (clK.cells (F j)).length = 70 := claimL_len (hF j (by omega)).1.1 (hF j (by omega)).1.2.1
        omega
      have h2 := hcell j (by omega) i hil
      rw [Addr.add_lit, ← Nat.add_assoc] at h2
      have e2 : clK.k = 70 := rfl
      rw [e2, h2]
      exact hv
/-- A claim by itself. -/
theorem open_claim {H : Type} {enc : TypeId × Value → H} {W : World} {v : Value} {d : DataW H} {p : List MemPlace}
    (h : DataW.Trod enc Tryz.prog W 0 (fun _ => true) true 45 v d p) : ∃ y : ClaimV, ClOk y ∧ v.cells.toList = claimL y := by
  obtain ⟨fuel, hf⟩ := h
  exact claim_cells hf
#print axioms open_claims
end Go.Proofs.YtipoielcmaegaaaGreatDoor
