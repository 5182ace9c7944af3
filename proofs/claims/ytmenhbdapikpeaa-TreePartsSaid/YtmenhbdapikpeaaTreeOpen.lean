/-
  Merged: Open0, IdCells, TreeOpen.
-/
import Derived.Test.YtmenhbdapikpeaaRows
import Derived.Test.YtmenhbdapikpeaaProg
import Derived.WalkKit
import Derived.ProofKit
import Derived.OpenShut
import Derived.ShutString
import Derived.ChangeOld
import Derived.Below
import Derived.SizedLaws
import Derived.Laws.Cover2
import Derived.WalkLawsBesides
import Derived.Test.YtmenhbdapikpeaaIds
import Derived.Test.YtmenhbdapikpeaaTreeMem
import Derived.Deep.Slices
import Derived.MapViews
namespace Go.Proofs.Ytmenhbdapikpeaa
open Go.ChangeShapes Go.WideShapes Go.ChangeAt Go.RowKit

theorem own : ownKnob Try.prog.godebug = none := by kernel_rfl
theorem laidOut : laidOutB Try.prog = true := by kernel_rfl

theorem lt_of_trod {H : Type} {enc : TypeId × Value → H} {W : World} {t : TypeId} {v : Value} {d : DataW H} {p : List MemPlace}
    (h : DataW.Trod enc Try.prog W 0 (fun _ => true) true t v d p) : ∀ x ∈ p, x.block < W.heap.size := by
  obtain ⟨m, hm⟩ := h
  exact DataW.trod_lt m _ _ _ hm

theorem f64_lt {b : Nat} (h : (Lit.float .f64 b).wf = true) : b < 18446744073709551616 := by
  simp [Lit.wf] at h
  exact h
end Go.Proofs.Ytmenhbdapikpeaa

namespace Go.Proofs.Ytmenhbdapikpeaa
open Go.ChangeShapes Go.WideShapes Go.ChangeAt Go.RowKit

/-- Numbers of a byte's kind, cell by cell. -/
theorem byte_cells {cs : List Value} (h : ∀ i, i < cs.length → ∃ z : Int, cs[i]? = some (.int .u8 z) ∧ (Lit.int .u8 z).wf = true) : ∃ l : List UInt8, l.length = cs.length ∧ cs = l.map B := by
  induction cs with
  | nil => exact ⟨[], rfl, rfl⟩
  | cons c r ih =>
    obtain ⟨l, hl, hr⟩ := ih (fun i hi => by have := h (i + 1) (by simp; omega); simpa using this)
    obtain ⟨z, hz, hw⟩ := h 0 (by simp)
    have hb : 0 ≤ z ∧ z ≤ 255 := by simpa [Lit.wf, IntKind.min, IntKind.max, IntKind.signed, IntKind.bits] using hw
    simp only [List.getElem?_cons_zero, Option.some.injEq] at hz
    refine ⟨UInt8.ofNat z.toNat :: l, by simp [hl], ?_⟩
    rw [List.map_cons, hz, ← hr]
    congr 1
    simp only [B, UInt8.toNat_ofNat']
    congr 1
    omega

/-- An id's cells, as they are read. -/
theorem id_cells {H : Type} {enc : TypeId × Value → H} {W : World} {fuel : Nat} {cs : List Value} {x : DataW H × List MemPlace}
    (h : DataW.trod enc Try.prog W 0 (fun _ => true) true fuel 39 cs = some x) : ∃ l : List UInt8, l.length = 32 ∧ cs = l.map B := by
  obtain ⟨xs, m, _, _, hl, _, hi⟩ := DataW.trod_array Try.underlying39 h
  have h32 : Try.prog.cellsOf 39 = 32 := by kernel_rfl
  have h1 : Try.prog.cellsOf 5 = 1 := by kernel_rfl
  rw [h32] at hl
  rw [h1] at hi
  obtain ⟨l, h2, h3⟩ := byte_cells (cs := cs) (fun i hi' => by
    have := hi i (by omega)
    rw [Nat.mul_one, List.drop_eq_getElem_cons hi', List.take_succ_cons, List.take_zero] at this
    cases hx : xs[i]? with
    | none => rw [List.getElem?_eq_none_iff] at hx; omega
    | some y =>
      rw [hx] at this
      obtain ⟨z, hz, _, hw⟩ := DataW.trod_int Try.underlying5 this
      simp only [List.cons.injEq, and_true] at hz
      exact ⟨z, by rw [List.getElem?_eq_getElem hi', hz], hw⟩)
  exact ⟨l, by omega, h3⟩

#print axioms id_cells
end Go.Proofs.Ytmenhbdapikpeaa

namespace Go.Proofs.Ytmenhbdapikpeaa
open Go.ChangeShapes Go.WideShapes Go.ChangeAt Go.RowKit

theorem keyc_cells {H : Type} {enc : TypeId × Value → H} {W : World} {n : Nat} {cs : List Value} {x : DataW H × List MemPlace}
    (h : DataW.trod enc Try.prog W 0 (fun _ => true) true n 41 cs = some x) : ∃ k : KeyV, k.c.length = 32 ∧ cs = keyL k ∧ ∃ l, keyOf Try.prog 41 (.agg (keyC k)) = some l := by
  have h0 := h
  obtain ⟨xs, m, _, hx, hl', hlen, hfs⟩ := DataW.trod_struct Try.underlying41 h
  have c34 : Try.prog.cellsOf 41 = 34 := by kernel_rfl
  have c1 : Try.prog.cellsOf 3 = 1 := by kernel_rfl
  have c32 : Try.prog.cellsOf 39 = 32 := by kernel_rfl
  rw [c34] at hl'
  obtain ⟨y0, y1, y2, rfl⟩ : ∃ y0 y1 y2, xs = [y0, y1, y2] := by
    match xs, hlen with
    | [y0, y1, y2], _ => exact ⟨y0, y1, y2, rfl⟩
  have e0 : DataW.trod enc Try.prog W 0 (fun _ => true) true m 3 ((cs.drop 0).take (Try.prog.cellsOf 3)) = some y0 := hfs 0 _ rfl
  have e1 : DataW.trod enc Try.prog W 0 (fun _ => true) true m 39 ((cs.drop 1).take (Try.prog.cellsOf 39)) = some y1 := hfs 1 _ rfl
  have e2 : DataW.trod enc Try.prog W 0 (fun _ => true) true m 3 ((cs.drop 33).take (Try.prog.cellsOf 3)) = some y2 := hfs 2 _ rfl
  obtain ⟨z0, k0, _⟩ := DataW.trod_int Try.underlying3 e0
  obtain ⟨l, k1, k1'⟩ := id_cells e1
  obtain ⟨z2, k2, _⟩ := DataW.trod_int Try.underlying3 e2
  rw [c1] at k0 k2
  rw [c32] at k1'
  have hk : cs = keyL ⟨z0, l, z2⟩ := by
    have h1 : cs = cs.take 1 ++ ((cs.drop 1).take 32 ++ cs.drop 33) := by
      rw [show cs.drop 33 = (cs.drop 1).drop 32 from by rw [List.drop_drop], List.take_append_drop, List.take_append_drop]
    have h2 : cs.drop 33 = (cs.drop 33).take 1 := by rw [List.take_of_length_le (by simp; omega)]
    rw [h1, h2, k1', k2]
    rw [List.drop_zero] at k0
    rw [k0]
    rfl
  refine ⟨⟨z0, l, z2⟩, k1, hk, ?_⟩
  have hT : DataW.Trod enc Try.prog W 0 (fun _ => true) true 41 (.agg (keyC ⟨z0, l, z2⟩)) x.1 x.2 := by
    refine ⟨n, ?_⟩
    rw [show (Value.agg (keyC ⟨z0, l, z2⟩)).cells.toList = cs from by rw [hk]; rfl]
    exact h0
  refine ⟨_, (keyOf_asKey (by kernel_rfl) (by kernel_rfl) ?_ hT).1⟩
  simp only [Value.formed, Try.underlying41, c34]
  rw [show (keyC ⟨z0, l, z2⟩).size = 34 from keyL_length k1]
  rfl

theorem node_cells {H : Type} {enc : TypeId × Value → H} {W : World} {n : Nat} {cs : List Value} {x : DataW H × List MemPlace}
    (h : DataW.trod enc Try.prog W 0 (fun _ => true) true n 43 cs = some x) : ∃ y : NodeV, NdOk y ∧ cs = nodeL y := by
  obtain ⟨xs, m, _, hx, hl', hlen, hfs⟩ := DataW.trod_struct Try.underlying43 h
  have c37 : Try.prog.cellsOf 43 = 37 := by kernel_rfl
  have c34 : Try.prog.cellsOf 41 = 34 := by kernel_rfl
  have c1 : Try.prog.cellsOf 3 = 1 := by kernel_rfl
  have c1' : Try.prog.cellsOf 21 = 1 := by kernel_rfl
  have c1b : Try.prog.cellsOf 4 = 1 := by kernel_rfl
  rw [c37] at hl'
  obtain ⟨y0, y1, y2, y3, rfl⟩ : ∃ y0 y1 y2 y3, xs = [y0, y1, y2, y3] := by
    match xs, hlen with
    | [y0, y1, y2, y3], _ => exact ⟨y0, y1, y2, y3, rfl⟩
  have e0 : DataW.trod enc Try.prog W 0 (fun _ => true) true m 41 ((cs.drop 0).take (Try.prog.cellsOf 41)) = some y0 := hfs 0 _ rfl
  have e1 : DataW.trod enc Try.prog W 0 (fun _ => true) true m 3 ((cs.drop 34).take (Try.prog.cellsOf 3)) = some y1 := hfs 1 _ rfl
  have e2 : DataW.trod enc Try.prog W 0 (fun _ => true) true m 21 ((cs.drop 35).take (Try.prog.cellsOf 21)) = some y2 := hfs 2 _ rfl
  have e3 : DataW.trod enc Try.prog W 0 (fun _ => true) true m 4 ((cs.drop 36).take (Try.prog.cellsOf 4)) = some y3 := hfs 3 _ rfl
  obtain ⟨k, hk, hkc, hl⟩ := keyc_cells e0
  obtain ⟨z1, k1, _⟩ := DataW.trod_int Try.underlying3 e1
  obtain ⟨z2, k2, _⟩ := DataW.trod_int Try.underlying21 e2
  obtain ⟨z3, k3, _⟩ := DataW.trod_bool Try.underlying4 e3
  rw [c1] at k1
  rw [c1'] at k2
  rw [c1b] at k3
  rw [c34, List.drop_zero] at hkc
  refine ⟨⟨k, z1, z2, z3⟩, ⟨hk, hl⟩, ?_⟩
  have h1 : cs = cs.take 34 ++ ((cs.drop 34).take 1 ++ ((cs.drop 35).take 1 ++ cs.drop 36)) := by
    rw [show cs.drop 36 = (cs.drop 35).drop 1 from by rw [List.drop_drop], List.take_append_drop, show cs.drop 35 = (cs.drop 34).drop 1 from by rw [List.drop_drop], List.take_append_drop, List.take_append_drop]
  have h2 : cs.drop 36 = (cs.drop 36).take 1 := by rw [List.take_of_length_le (by simp; omega)]
  rw [h1, h2, hkc, k1, k2, k3]
  rfl

theorem open_nodes {H : Type} {enc : TypeId × Value → H} {W : World} {a : Option Addr} {len cap : Nat} {d : DataW H} {p : List MemPlace}
    (h : DataW.Trod enc Try.prog W 0 (fun _ => true) true 22 (.slice a len cap) d p) : ∃ L, NodesAt W a len cap L := by
  obtain ⟨fuel, hf⟩ := h
  have hc : Try.prog.cellsOf 43 = 37 := by kernel_rfl
  rcases Deep.open_slice Try.underlying22 hf with ⟨hcs, hx⟩ | ⟨x, l, c, m, n, D, Pl, hcs, _, hl, hm, hmm, hx, hel⟩
  · simp [Value.cells] at hcs
    obtain ⟨rfl, rfl, rfl⟩ := hcs
    exact ⟨[], NodesAt.nil⟩
  · simp [Value.cells] at hcs
    obtain ⟨rfl, rfl, rfl⟩ := hcs
    simp only [ite_true] at hmm
    subst hmm
    rw [hc] at hel
    haveI : Inhabited NodeV := ⟨⟨⟨0, [], 0⟩, 0, 0, false⟩⟩
    obtain ⟨F, hF⟩ := Deep.choose_lt (α := NodeV) (p := fun i k => NdOk k ∧ W.cells? 0 (x.add (i * 37)) 37 = some (nodeL k)) (fun i hi => by
      obtain ⟨cs', h1, h2⟩ := hel i hi
      obtain ⟨f, h3, h4⟩ := node_cells h2
      exact ⟨f, h3, by rw [h1, h4]⟩)
    refine ⟨(List.range len).map F, by simp, hl, by unfold maxLen at hm; omega, fun y hy => by
      obtain ⟨k, hk, rfl⟩ := List.mem_map.1 hy
      exact (hF k (by have := List.mem_range.1 hk; omega)).1, ?_⟩
    by_cases hc0 : m = 0
    · exact .inl ⟨by omega, hc0⟩
    · have hcell : ∀ i, i < m → ∀ r, r < 37 → W.cell? (x.add (i * 37 + r)) = (nodeL (F i))[r]? := fun i hi r hr => by
        obtain ⟨_, _, h3⟩ := World.cells?_some (hF i hi).2
        have := h3 r hr
        rwa [Deep.add_add] at this
      have hF0 := hF 0 (by omega)
      have h0 := hcell 0 (by omega) 0 (by omega)
      have hl0 := nodeL_length hF0.1
      rw [Nat.zero_mul, Nat.add_zero, List.getElem?_eq_getElem (by omega)] at h0
      have h1 := World.cell?_spot h0
      obtain ⟨b, off, spot⟩ := x
      have hspot : spot = none := by simpa [Addr.add] using h1
      subst hspot
      refine .inr ⟨b, off, rfl, fun j hj i v hv => ?_⟩
      have e : nd ((List.range len).map F) j = F j := by unfold nd; simp [hj]
      rw [e] at hv
      have hil : i < 37 := by
        have := (List.getElem?_eq_some_iff.1 hv).1
        rwa [nodeL_length (hF j (by omega)).1] at this
      have h2 := hcell j (by omega) i hil
      rw [Addr.add_lit, ← Nat.add_assoc] at h2
      rw [h2]
      exact hv
#print axioms open_nodes
end Go.Proofs.Ytmenhbdapikpeaa
