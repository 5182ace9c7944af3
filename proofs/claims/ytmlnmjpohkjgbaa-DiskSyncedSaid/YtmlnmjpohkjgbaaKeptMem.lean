/-
  What DiskSynced is given, in memory: acts, rows of bytes, a name, bytes, fates.
-/
import Derived.Test.YtmlnmjpohkjgbaaActsOpen
import Derived.Test.YtmlnmjpohkjgbaaSyncMath
namespace Go.Proofs.Ytmlnmjpohkjgbaa
open Go.ChangeShapes Go.WideShapes Go.ChangeAt Go.RowKit
open Go.ChangeMaps (open_string shut_string)

/-- A slice of bytes, as it lies. -/
structure RowV where
  a : Option Addr
  n : Nat
  c : Nat
  l : List UInt8
instance : Inhabited RowV := ⟨⟨none, 0, 0, []⟩⟩
/-- A slice value reads as these slices of bytes. -/
structure BehAt (w : World) (a : Option Addr) (n c : Nat) (L : List RowV) : Prop where
  len : L.length = n
  le : n ≤ c
  most : c ≤ 9223372036854775807
  mem : (n = 0 ∧ c = 0) ∨ ∃ b off, a = some ⟨b, off, none⟩ ∧ ∀ j, j < n → w.cell? ⟨b, off + j, none⟩ = some (.slice (L.getD j default).a (L.getD j default).n (L.getD j default).c)
  each : ∀ j, j < n → Bytes w (L.getD j default).a (L.getD j default).n (L.getD j default).c (L.getD j default).l
section
variable {w w' : World} {a : Option Addr} {n c : Nat} {L : List RowV}
theorem BehAt.nil : BehAt w none 0 0 [] := ⟨rfl, Nat.le_refl _, by omega, .inl ⟨rfl, rfl⟩, fun j hj => by omega⟩
theorem BehAt.below (h : BehAt w a n c L) (hb : Below w.heap.size w w') : BehAt w' a n c L := by
  obtain ⟨h1, h2, h3, h4, h5⟩ := h
  refine ⟨h1, h2, h3, ?_, fun j hj => (h5 j hj).below hb⟩
  rcases h4 with h4 | ⟨b, off, ha, hc⟩
  · exact .inl h4
  · exact .inr ⟨b, off, ha, fun j hj => (hb.cell (World.block_lt_of_cell? _ _ (hc j hj))).trans (hc j hj)⟩
theorem BehAt.some_ (h : BehAt w a n c L) (hn : 0 < n) : ∃ b off, a = some ⟨b, off, none⟩ := by
  rcases h.mem with ⟨h0, _⟩ | ⟨b, off, ha, _⟩
  · omega
  · exact ⟨b, off, ha⟩
theorem BehAt.cell {b off : Nat} (h : BehAt w (some ⟨b, off, none⟩) n c L) (j : Nat) (hj : j < n) : w.cell? ⟨b, off + j, none⟩ = some (.slice (L.getD j default).a (L.getD j default).n (L.getD j default).c) := by
  rcases h.mem with ⟨h0, _⟩ | ⟨b', off', ha, hc⟩
  · omega
  · simp only [Option.some.injEq, Addr.mk.injEq, and_true] at ha
    obtain ⟨rfl, rfl⟩ := ha
    exact hc j hj
end
theorem open_beh {H : Type} {enc : TypeId × Value → H} {W : World} {a : Option Addr} {len cap : Nat} {d : DataW H} {p : List MemPlace}
    (h : DataW.Trod enc Try.prog W 0 (fun _ => true) true 26 (.slice a len cap) d p) : ∃ L, BehAt W a len cap L := by
  obtain ⟨fuel, hf⟩ := h
  have hc : Try.prog.cellsOf 35 = 1 := by kernel_rfl
  rcases Deep.open_slice Try.underlying26 hf with ⟨hcs, hx⟩ | ⟨x, l, c, m, n, D, Pl, hcs, _, hl, hm, hmm, hx, hel⟩
  · simp [Value.cells] at hcs
    obtain ⟨rfl, rfl, rfl⟩ := hcs
    exact ⟨[], BehAt.nil⟩
  · simp [Value.cells] at hcs
    obtain ⟨rfl, rfl, rfl⟩ := hcs
    simp only [ite_true] at hmm
    subst hmm
    rw [hc] at hel
    obtain ⟨F, hF⟩ := Deep.choose_lt (α := RowV) (p := fun i f => W.cells? 0 (x.add (i * 1)) 1 = some [.slice f.a f.n f.c] ∧ Bytes W f.a f.n f.c f.l) (fun i hi => by
      obtain ⟨cs', h1, h2⟩ := hel i hi
      obtain ⟨a0, n0, c0, e0⟩ := Go.Joins.slice_form Try.underlying35 h2
      rw [e0] at h2
      obtain ⟨l0, hb, _⟩ := open_bytes (a := a0) (len := n0) (cap := c0) (d := D i) (p := Pl i) ⟨n, h2⟩
      exact ⟨⟨a0, n0, c0, l0⟩, by rw [h1, e0], hb⟩)
    have hg : ∀ j, j < len → ((List.range len).map F).getD j default = F j := fun j hj => by simp [hj]
    refine ⟨(List.range len).map F, ⟨by simp, hl, by unfold maxLen at hm; omega, ?_, fun j hj => by rw [hg j hj]; exact (hF j (by omega)).2⟩⟩
    by_cases hc0 : m = 0
    · exact .inl ⟨by omega, hc0⟩
    · have hcell : ∀ i, i < m → W.cell? (x.add i) = some (.slice (F i).a (F i).n (F i).c) := fun i hi => by
        obtain ⟨_, _, h3⟩ := World.cells?_some (hF i hi).1
        have a0 := h3 0 (by omega)
        rw [Deep.add_add, Nat.mul_one, Nat.add_zero] at a0
        exact a0
      have h1 := World.cell?_spot (hcell 0 (by omega))
      obtain ⟨b, off, spot⟩ := x
      have hspot : spot = none := by simpa [Addr.add] using h1
      subst hspot
      refine .inr ⟨b, off, rfl, fun j hj => ?_⟩
      rw [hg j hj]
      have a0 := hcell j (by omega)
      rw [Addr.add_lit] at a0
      exact a0
#print axioms open_beh

/-- What came in, by its cells. -/
abbrev keptC (aA : Option Addr) (nA cA : Nat) (aB : Option Addr) (nB cB : Nat) (s : ByteArray) (aX : Option Addr) (nX cX : Nat) (aF : Option Addr) (nF cF : Nat) : Array Value := #[.slice aA nA cA, .slice aB nB cB, .string s, .slice aX nX cX, .slice aF nF cF]
theorem five_of {α : Type} (cs : List α) (h : cs.length = 5) : ∃ u0 u1 u2 u3 u4, cs = [u0, u1, u2, u3, u4] := by
  match cs, h with
  | [u0, u1, u2, u3, u4], _ => exact ⟨u0, u1, u2, u3, u4, rfl⟩
theorem open_kept {H : Type} {enc : TypeId × Value → H} {W : World} {cs : Array Value} {d : DataW H} {p : List MemPlace}
    (h : DataW.Trod enc Try.prog W 0 (fun _ => true) true 47 (.agg cs) d p) :
    ∃ aA nA cA LA aB nB cB LB s aX nX cX lX aF nF cF lF, cs = keptC aA nA cA aB nB cB s aX nX cX aF nF cF ∧ ActsAt W aA nA cA LA ∧ BehAt W aB nB cB LB ∧ Bytes W aX nX cX lX ∧ At1 I W aF nF cF lF ∧ ∀ z ∈ lF, -9223372036854775808 ≤ z ∧ z ≤ 9223372036854775807 := by
  obtain ⟨fuel, hf⟩ := h
  obtain ⟨xs, m, _, hx, hl, hlen, hfs⟩ := DataW.trod_struct Try.underlying47 hf
  have c5 : Try.prog.cellsOf 47 = 5 := by kernel_rfl
  rw [c5] at hl
  obtain ⟨y0, y1, y2, y3, y4, rfl⟩ := five_of xs hlen
  obtain ⟨u0, u1, u2, u3, u4, hcs⟩ := five_of cs.toList hl
  have wa : Try.prog.cellsOf 22 = 1 := by kernel_rfl
  have wb : Try.prog.cellsOf 26 = 1 := by kernel_rfl
  have ws : Try.prog.cellsOf 9 = 1 := by kernel_rfl
  have wx : Try.prog.cellsOf 35 = 1 := by kernel_rfl
  have wn : Try.prog.cellsOf 27 = 1 := by kernel_rfl
  have f0 : DataW.trod enc Try.prog W 0 (fun _ => true) true m 22 ((cs.toList.drop 0).take (Try.prog.cellsOf 22)) = some y0 := hfs 0 _ rfl
  have f1 : DataW.trod enc Try.prog W 0 (fun _ => true) true m 26 ((cs.toList.drop 1).take (Try.prog.cellsOf 26)) = some y1 := hfs 1 _ rfl
  have f2 : DataW.trod enc Try.prog W 0 (fun _ => true) true m 9 ((cs.toList.drop 2).take (Try.prog.cellsOf 9)) = some y2 := hfs 2 _ rfl
  have f3 : DataW.trod enc Try.prog W 0 (fun _ => true) true m 35 ((cs.toList.drop 3).take (Try.prog.cellsOf 35)) = some y3 := hfs 3 _ rfl
  have f4 : DataW.trod enc Try.prog W 0 (fun _ => true) true m 27 ((cs.toList.drop 4).take (Try.prog.cellsOf 27)) = some y4 := hfs 4 _ rfl
  rw [wa, hcs] at f0
  rw [wb, hcs] at f1
  rw [ws, hcs] at f2
  rw [wx, hcs] at f3
  rw [wn, hcs] at f4
  have f0 : DataW.trod enc Try.prog W 0 (fun _ => true) true m 22 [u0] = some y0 := f0
  have f1 : DataW.trod enc Try.prog W 0 (fun _ => true) true m 26 [u1] = some y1 := f1
  have f2 : DataW.trod enc Try.prog W 0 (fun _ => true) true m 9 [u2] = some y2 := f2
  have f3 : DataW.trod enc Try.prog W 0 (fun _ => true) true m 35 [u3] = some y3 := f3
  have f4 : DataW.trod enc Try.prog W 0 (fun _ => true) true m 27 [u4] = some y4 := f4
  obtain ⟨aA, nA, cA, e0⟩ := Go.Joins.slice_form Try.underlying22 f0
  obtain ⟨aB, nB, cB, e1⟩ := Go.Joins.slice_form Try.underlying26 f1
  obtain ⟨s, e2, _, _⟩ := DataW.trod_string Try.underlying9 f2
  obtain ⟨aX, nX, cX, e3⟩ := Go.Joins.slice_form Try.underlying35 f3
  obtain ⟨aF, nF, cF, e4⟩ := Go.Joins.slice_form Try.underlying27 f4
  obtain rfl := (List.cons.inj e0).1
  obtain rfl := (List.cons.inj e1).1
  obtain rfl := (List.cons.inj e2).1
  obtain rfl := (List.cons.inj e3).1
  obtain rfl := (List.cons.inj e4).1
  obtain ⟨LA, hA⟩ := open_acts (a := aA) (len := nA) (cap := cA) (d := y0.1) (p := y0.2) ⟨m, f0⟩
  obtain ⟨LB, hB⟩ := open_beh (a := aB) (len := nB) (cap := cB) (d := y1.1) (p := y1.2) ⟨m, f1⟩
  obtain ⟨lX, hX, _⟩ := open_bytes (a := aX) (len := nX) (cap := cX) (d := y3.1) (p := y3.2) ⟨m, f3⟩
  obtain ⟨lF, hF, zF⟩ := open_nums (a := aF) (len := nF) (cap := cF) (d := y4.1) (p := y4.2) ⟨m, f4⟩
  exact ⟨aA, nA, cA, LA, aB, nB, cB, LB, s, aX, nX, cX, lX, aF, nF, cF, lF, by rw [← Array.toList_inj, hcs], hA, hB, hX, hF, zF⟩
#print axioms open_kept
end Go.Proofs.Ytmlnmjpohkjgbaa
