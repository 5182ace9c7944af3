/-
  What the rows' list of variables gives: the two tables; a world for the witness; acts and numbers that came in.
-/
import Derived.Test.YtcnhifkpflaibaaDoorCards
import Derived.Test.YtcnhifkpflaibaaDoorTie
import Derived.Test.YtcnhifkpflaibaaDoorOpen
import Derived.Test.YtcnhifkpflaibaaDoorLooseActs
import Derived.Lib.SmallJoins
import Derived.Deep.Slices
import Derived.WalkKit
import Derived.ProofKit
import Derived.OpenShut
import Derived.Deep.DeepHandedRow
import Derived.Lib.LaidTab
import Derived.Stop.LaidErr
namespace Go.Proofs.YtcnhifkpflaibaaDoor
open Go.ChangeShapes Go.WideShapes Go.ChangeAt Go.RowKit

theorem gFirst : Tryd.prog.globalNamed "variorum/sha.firstWords" = some 0 := by kernel_rfl
theorem gRound : Tryd.prog.globalNamed "variorum/sha.roundWords" = some 1 := by kernel_rfl
theorem gFirstType : (Tryd.prog.globals[0]?).map (·.type) = some 91 := by kernel_rfl
theorem gRoundType : (Tryd.prog.globals[1]?).map (·.type) = some 98 := by kernel_rfl
theorem cells8w : Tryd.prog.cellsOf 91 = 8 := by kernel_rfl
theorem cells64w : Tryd.prog.cellsOf 98 = 64 := by kernel_rfl
theorem cells1w : Tryd.prog.cellsOf 90 = 1 := by kernel_rfl

def firstI : List Int := [1779033703, 3144134277, 1013904242, 2773480762, 1359893119, 2600822924, 528734635, 1541459225]
def roundI : List Int := [1116352408, 1899447441, 3049323471, 3921009573, 961987163, 1508970993, 2453635748, 2870763221, 3624381080, 310598401, 607225278, 1426881987, 1925078388, 2162078206, 2614888103, 3248222580, 3835390401, 4022224774, 264347078, 604807628, 770255983, 1249150122, 1555081692, 1996064986, 2554220882, 2821834349, 2952996808, 3210313671, 3336571891, 3584528711, 113926993, 338241895, 666307205, 773529912, 1294757372, 1396182291, 1695183700, 1986661051, 2177026350, 2456956037, 2730485921, 2820302411, 3259730800, 3345764771, 3516065817, 3600352804, 4094571909, 275423344, 430227734, 506948616, 659060556, 883997877, 958139571, 1322822218, 1537002063, 1747873779, 1955562222, 2024104815, 2227730452, 2361852424, 2428436474, 2756734187, 3204031479, 3329325298]

theorem first_cells : wordsV firstH = firstI.map fun z => Value.int .u32 z := by kernel_rfl
theorem round_cells : wordsV roundK = roundI.map fun z => Value.int .u32 z := by kernel_rfl

theorem tables_of {W : World} (h : laidMetH Tryd.prog Rows.looseTwiceRow.laid W) : Tables W := by
  have h0 : laidMet Tryd.prog [("variorum/sha.firstWords", Lib.tabData .u32 firstI), ("variorum/sha.roundWords", Lib.tabData .u32 roundI)] W := h
  have t1 := Lib.tabIs_of_head gFirst gFirstType Tryd.underlying91 Tryd.underlying90 cells1w cells8w h0
  have t2 := Lib.tabIs_of_head gRound gRoundType Tryd.underlying98 Tryd.underlying90 cells1w cells64w h0.tail
  refine ⟨⟨by decide, fun j v hj => ?_⟩, ⟨by decide, fun j v hj => ?_⟩⟩
  · rw [first_cells] at hj
    have hl : j < firstI.length := by
      have := (List.getElem?_eq_some_iff.1 hj).1
      simpa using this
    rw [Nat.zero_add, t1.cell gFirst j hl]
    simpa [hl] using hj
  · rw [round_cells] at hj
    have hl : j < roundI.length := by
      have := (List.getElem?_eq_some_iff.1 hj).1
      simpa using this
    rw [Nat.zero_add, t2.cell gRound j hl]
    simpa [hl] using hj

/-- A WORLD FOR THE WITNESS: the settled one, the tables (blocks 0 and 1) holding what their initialisers lay. -/
def firstO : Obj → Obj
  | .cells _ t frozen => .cells (firstI.map fun z => Value.int .u32 z).toArray t frozen
  | o => o
def roundO : Obj → Obj
  | .cells _ t frozen => .cells (roundI.map fun z => Value.int .u32 z).toArray t frozen
  | o => o
noncomputable def laidWorld (os : Os) : World :=
  { World.holding Tryd.prog os ⟨#[], #[], []⟩ with heap := ((World.holding Tryd.prog os ⟨#[], #[], []⟩).heap.modify 0 firstO).modify 1 roundO }
/-- A slice of numbers that came in. -/
theorem open_nums {H : Type} {enc : TypeId × Value → H} {W : World} {a : Option Addr} {len cap : Nat} {d : DataW H} {p : List MemPlace}
    (h : DataW.Trod enc Tryd.prog W 0 (fun _ => true) true 24 (.slice a len cap) d p) :
    ∃ l, At1 I W a len cap l ∧ ∀ z ∈ l, -9223372036854775808 ≤ z ∧ z ≤ 9223372036854775807 := by
  obtain ⟨fuel, hf⟩ := h
  rcases open_ints Tryd.underlying24 Tryd.underlying3 (by kernel_rfl) hf with ⟨hcs, hx⟩ | ⟨x, l, c, zs, hcs, _, hl, hm, hz, hx, hcell, hwz⟩
  · simp [Value.cells] at hcs
    obtain ⟨rfl, rfl, rfl⟩ := hcs
    exact ⟨[], At1.nil, fun z hz => by cases hz⟩
  · simp [Value.cells] at hcs
    obtain ⟨rfl, rfl, rfl⟩ := hcs
    simp only [ite_true] at hz
    refine ⟨zs.take len, ⟨by simp; omega, hl, by unfold maxLen at hm; omega, ?_⟩, fun z hz' => ?_⟩
    · by_cases hc : cap = 0
      · exact .inl ⟨by omega, hc⟩
      · have h0 := World.cell?_spot (hcell 0 (by omega))
        obtain ⟨b, off, spot⟩ := x
        have hspot : spot = none := by simpa [Addr.add] using h0
        subst hspot
        refine .inr ⟨b, off, rfl, fun j hj => ?_⟩
        have := hcell j (by omega)
        rw [Addr.add_lit] at this
        rw [this]
        have hj2 : j < zs.length := by omega
        simp [I, hj, hj2]
    · have := hwz z (List.mem_of_mem_take hz')
      simpa [Lit.wf, IntKind.min, IntKind.max, IntKind.signed, IntKind.bits] using this

theorem five_ofL {α : Type} (cs : List α) (h : cs.length = 5) : ∃ u0 u1 u2 u3 u4, cs = [u0, u1, u2, u3, u4] := by
  match cs, h with
  | [u0, u1, u2, u3, u4], _ => exact ⟨u0, u1, u2, u3, u4, rfl⟩
/-- An act that came in. -/
theorem open_lactIn {H : Type} {enc : TypeId × Value → H} {W : World} {n : Nat} {cs : List Value} {x : DataW H × List MemPlace}
    (h : DataW.trod enc Tryd.prog W 0 (fun _ => true) true n 30 cs = some x) : ∃ y : LActV, cs = y.cells.toList ∧ LActIn W y := by
  obtain ⟨xs, m, _, hx, hl, hlen, hfs⟩ := DataW.trod_struct Tryd.underlying30 h
  have c5 : Tryd.prog.cellsOf 30 = 5 := by kernel_rfl
  rw [c5] at hl
  obtain ⟨y0, y1, y2, y3, y4, rfl⟩ := five_ofL xs hlen
  obtain ⟨u0, u1, u2, u3, u4, rfl⟩ := five_ofL cs hl
  have wi : Tryd.prog.cellsOf 3 = 1 := by kernel_rfl
  have wb : Tryd.prog.cellsOf 23 = 1 := by kernel_rfl
  have wn : Tryd.prog.cellsOf 24 = 1 := by kernel_rfl
  have f0 : DataW.trod enc Tryd.prog W 0 (fun _ => true) true m 3 (([u0, u1, u2, u3, u4].drop 0).take (Tryd.prog.cellsOf 3)) = some y0 := hfs 0 _ rfl
  have f1 : DataW.trod enc Tryd.prog W 0 (fun _ => true) true m 23 (([u0, u1, u2, u3, u4].drop 1).take (Tryd.prog.cellsOf 23)) = some y1 := hfs 1 _ rfl
  have f2 : DataW.trod enc Tryd.prog W 0 (fun _ => true) true m 23 (([u0, u1, u2, u3, u4].drop 2).take (Tryd.prog.cellsOf 23)) = some y2 := hfs 2 _ rfl
  have f3 : DataW.trod enc Tryd.prog W 0 (fun _ => true) true m 3 (([u0, u1, u2, u3, u4].drop 3).take (Tryd.prog.cellsOf 3)) = some y3 := hfs 3 _ rfl
  have f4 : DataW.trod enc Tryd.prog W 0 (fun _ => true) true m 24 (([u0, u1, u2, u3, u4].drop 4).take (Tryd.prog.cellsOf 24)) = some y4 := hfs 4 _ rfl
  rw [wi] at f0 f3
  rw [wb] at f1 f2
  rw [wn] at f4
  have f0 : DataW.trod enc Tryd.prog W 0 (fun _ => true) true m 3 [u0] = some y0 := f0
  have f1 : DataW.trod enc Tryd.prog W 0 (fun _ => true) true m 23 [u1] = some y1 := f1
  have f2 : DataW.trod enc Tryd.prog W 0 (fun _ => true) true m 23 [u2] = some y2 := f2
  have f3 : DataW.trod enc Tryd.prog W 0 (fun _ => true) true m 3 [u3] = some y3 := f3
  have f4 : DataW.trod enc Tryd.prog W 0 (fun _ => true) true m 24 [u4] = some y4 := f4
  obtain ⟨z, e0, _, _⟩ := DataW.trod_int Tryd.underlying3 f0
  obtain ⟨a, k, c, e1⟩ := Go.Joins.slice_form Tryd.underlying23 f1
  obtain ⟨a2, k2, c2, e2⟩ := Go.Joins.slice_form Tryd.underlying23 f2
  obtain ⟨q, e3, _, wq⟩ := DataW.trod_int Tryd.underlying3 f3
  obtain ⟨a5, k5, c5, e4⟩ := Go.Joins.slice_form Tryd.underlying24 f4
  obtain rfl := (List.cons.inj e0).1
  obtain rfl := (List.cons.inj e1).1
  obtain rfl := (List.cons.inj e2).1
  obtain rfl := (List.cons.inj e3).1
  obtain rfl := (List.cons.inj e4).1
  obtain ⟨l, hb, _⟩ := open_bytes (a := a) (len := k) (cap := c) (d := y1.1) (p := y1.2) ⟨m, f1⟩
  obtain ⟨l2, hb2, _⟩ := open_bytes (a := a2) (len := k2) (cap := c2) (d := y2.1) (p := y2.2) ⟨m, f2⟩
  obtain ⟨l5, h5, z5⟩ := open_nums (a := a5) (len := k5) (cap := c5) (d := y4.1) (p := y4.2) ⟨m, f4⟩
  have hq : q ≤ 9223372036854775807 := by
    simp [Lit.wf, IntKind.min, IntKind.max, IntKind.signed, IntKind.bits] at wq
    omega
  exact ⟨⟨z, a, k, c, l, a2, k2, c2, l2, q, a5, k5, c5, l5⟩, rfl, ⟨hb, hb2, h5, hq, z5⟩⟩

theorem open_lacts {H : Type} {enc : TypeId × Value → H} {W : World} {a : Option Addr} {len cap : Nat} {d : DataW H} {p : List MemPlace}
    (h : DataW.Trod enc Tryd.prog W 0 (fun _ => true) true 22 (.slice a len cap) d p) : ∃ L, LActsAt W a len cap L := by
  obtain ⟨fuel, hf⟩ := h
  have hc : Tryd.prog.cellsOf 30 = 5 := by kernel_rfl
  rcases Deep.open_slice Tryd.underlying22 hf with ⟨hcs, hx⟩ | ⟨x, l, c, m, n, D, Pl, hcs, _, hl, hm, hmm, hx, hel⟩
  · simp [Value.cells] at hcs
    obtain ⟨rfl, rfl, rfl⟩ := hcs
    exact ⟨[], LActsAt.nil⟩
  · simp [Value.cells] at hcs
    obtain ⟨rfl, rfl, rfl⟩ := hcs
    simp only [ite_true] at hmm
    subst hmm
    rw [hc] at hel
    obtain ⟨F, hF⟩ := Deep.choose_lt (α := LActV) (p := fun i f => W.cells? 0 (x.add (i * 5)) 5 = some f.cells.toList ∧ LActIn W f) (fun i hi => by
      obtain ⟨cs', h1, h2⟩ := hel i hi
      obtain ⟨f, h3, h4⟩ := open_lactIn h2
      exact ⟨f, by rw [h1, h3], h4⟩)
    have hg : ∀ j, j < len → ((List.range len).map F).getD j default = F j := fun j hj => by simp [hj]
    refine ⟨(List.range len).map F, ⟨by simp, hl, by unfold maxLen at hm; omega, ?_, fun j hj => by rw [hg j hj]; exact (hF j (by omega)).2⟩⟩
    by_cases hc0 : m = 0
    · exact .inl ⟨by omega, hc0⟩
    · have hcell : ∀ i, i < m → ∀ q v, (F i).cells[q]? = some v → W.cell? (x.add (i * 5 + q)) = some v := fun i hi q v hv => by
        obtain ⟨_, _, h3⟩ := World.cells?_some (hF i hi).1
        have hq : q < 5 := by
          rcases Nat.lt_or_ge q 5 with h | h
          · exact h
          · rw [Array.getElem?_eq_none (by simpa using h)] at hv; cases hv
        have a0 := h3 q (by simpa using hq)
        rw [Deep.add_add] at a0
        rw [a0]
        simpa using hv
      have h1 := World.cell?_spot (hcell 0 (by omega) 0 _ rfl)
      obtain ⟨b, off, spot⟩ := x
      have hspot : spot = none := by simpa [Addr.add] using h1
      subst hspot
      refine .inr ⟨b, off, rfl, fun j hj q v hv => ?_⟩
      rw [hg j hj] at hv
      have a0 := hcell j (by omega) q v hv
      rw [Addr.add_lit] at a0
      rw [← a0, Nat.add_assoc]
end Go.Proofs.YtcnhifkpflaibaaDoor
