/-
  What the rows' list of variables gives: the two tables; a world for the witness.
-/
import Derived.Test.YtkjgcgdfofheeaaDoorCards
import Derived.Test.YtkjgcgdfofheeaaDoorTie
import Derived.Test.YtkjgcgdfofheeaaDoorOpen
import Derived.Test.YtkjgcgdfofheeaaDoorShaNil
import Derived.WalkKit
import Derived.ProofKit
import Derived.OpenShut
import Derived.Deep.DeepHandedRow
import Derived.Lib.LaidTab
import Derived.Stop.LaidErr
namespace Go.Proofs.YtkjgcgdfofheeaaDoor
open Go.ChangeShapes Go.WideShapes Go.ChangeAt Go.RowKit

theorem gFirst : Tryd.prog.globalNamed "variorum/sha.firstWords" = some 0 := by kernel_rfl
theorem gRound : Tryd.prog.globalNamed "variorum/sha.roundWords" = some 1 := by kernel_rfl
theorem gFirstType : (Tryd.prog.globals[0]?).map (·.type) = some 41 := by kernel_rfl
theorem gRoundType : (Tryd.prog.globals[1]?).map (·.type) = some 42 := by kernel_rfl
theorem cells8w : Tryd.prog.cellsOf 41 = 8 := by kernel_rfl
theorem cells64w : Tryd.prog.cellsOf 42 = 64 := by kernel_rfl
theorem cells1w : Tryd.prog.cellsOf 40 = 1 := by kernel_rfl

def firstI : List Int := [1779033703, 3144134277, 1013904242, 2773480762, 1359893119, 2600822924, 528734635, 1541459225]
def roundI : List Int := [1116352408, 1899447441, 3049323471, 3921009573, 961987163, 1508970993, 2453635748, 2870763221, 3624381080, 310598401, 607225278, 1426881987, 1925078388, 2162078206, 2614888103, 3248222580, 3835390401, 4022224774, 264347078, 604807628, 770255983, 1249150122, 1555081692, 1996064986, 2554220882, 2821834349, 2952996808, 3210313671, 3336571891, 3584528711, 113926993, 338241895, 666307205, 773529912, 1294757372, 1396182291, 1695183700, 1986661051, 2177026350, 2456956037, 2730485921, 2820302411, 3259730800, 3345764771, 3516065817, 3600352804, 4094571909, 275423344, 430227734, 506948616, 659060556, 883997877, 958139571, 1322822218, 1537002063, 1747873779, 1955562222, 2024104815, 2227730452, 2361852424, 2428436474, 2756734187, 3204031479, 3329325298]

theorem first_cells : wordsV firstH = firstI.map fun z => Value.int .u32 z := by kernel_rfl
theorem round_cells : wordsV roundK = roundI.map fun z => Value.int .u32 z := by kernel_rfl

theorem tables_of {W : World} (h : laidMetH Tryd.prog Rows.shaNilRow.laid W) : Tables W := by
  have h0 : laidMet Tryd.prog [("variorum/sha.firstWords", Lib.tabData .u32 firstI), ("variorum/sha.roundWords", Lib.tabData .u32 roundI)] W := h
  have t1 := Lib.tabIs_of_head gFirst gFirstType Tryd.underlying41 Tryd.underlying40 cells1w cells8w h0
  have t2 := Lib.tabIs_of_head gRound gRoundType Tryd.underlying42 Tryd.underlying40 cells1w cells64w h0.tail
  refine ⟨⟨by decide, fun j v hj => ?_⟩, ⟨by decide, fun j v hj => ?_⟩⟩
  · rw [first_cells] at hj
    have hl : j < firstI.length := by
      have := (List.getElem?_eq_some_iff.1 hj).1
      simpa using this
    rw [Nat.zero_add, t1.cell gFirst j hl]
    simpa [hl] using hj
  · rw [round_cells] at hj
    have hl : j < roundI.length := by
      have := (List.getElem?_eq_some_iff.1 hj).1
      simpa using this
    rw [Nat.zero_add, t2.cell gRound j hl]
    simpa [hl] using hj

/-- A WORLD FOR THE WITNESS: the settled one, the tables (blocks 0 and 1) holding what their initialisers lay. -/
def firstO : Obj → Obj
  | .cells _ t frozen => .cells (firstI.map fun z => Value.int .u32 z).toArray t frozen
  | o => o
def roundO : Obj → Obj
  | .cells _ t frozen => .cells (roundI.map fun z => Value.int .u32 z).toArray t frozen
  | o => o
noncomputable def laidWorld (os : Os) : World :=
  { World.holding Tryd.prog os ⟨#[], #[], []⟩ with heap := ((World.holding Tryd.prog os ⟨#[], #[], []⟩).heap.modify 0 firstO).modify 1 roundO }
end Go.Proofs.YtkjgcgdfofheeaaDoor
