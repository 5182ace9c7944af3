/-
  What the rows' list of variables gives; a world for the witness (register's seat).
-/
import Derived.Test.YtipoielcmaegaaaGreatDoorCards
import Derived.Test.YtipoielcmaegaaaGreatDoorTie
import Derived.Test.YtipoielcmaegaaaGreatDoorOpen
import Derived.Test.YtipoielcmaegaaaGreatDoorNumBehind
import Derived.Test.YtipoielcmaegaaaGreatDoorRegOpen
import Derived.WalkKit
import Derived.ProofKit
import Derived.OpenShut
import Derived.Deep.DeepHandedRow
import Derived.Lib.LaidU8T
import Derived.Lib.LaidTab
import Derived.Stop.LaidErr
import Derived.WalkSmall
namespace Go.Proofs.YtipoielcmaegaaaGreatDoor
open Go.ChangeShapes Go.WideShapes Go.ChangeAt Go.RowKit

theorem first_data : Rows.laid_unicode_utf8_first = Lib.firstData := by kernel_rfl
theorem accept_data : (Rows.laid_unicode_utf8_acceptRanges : DataW Unit) = Lib.acceptData := by kernel_rfl
theorem pow_data : (Rows.laid_internal_strconv_uint64pow10 : DataW Unit) = Lib.tabData .u64 Lib.pow10Tab := by kernel_rfl

theorem gP : Tryz.prog.globalNamed "internal/strconv.uint64pow10" = some 1 := by kernel_rfl
theorem gPType : (Tryz.prog.globals[1]?).map (·.type) = some 135 := by kernel_rfl
theorem gES : Tryz.prog.globalNamed "strconv.ErrSyntax" = some 2 := by kernel_rfl
theorem gESType : (Tryz.prog.globals[2]?).map (·.type) = some 79 := by kernel_rfl
theorem gER : Tryz.prog.globalNamed "strconv.ErrRange" = some 3 := by kernel_rfl
theorem gERType : (Tryz.prog.globals[3]?).map (·.type) = some 79 := by kernel_rfl
theorem cellsE : Tryz.prog.cellsOf 149 = 1 := by kernel_rfl
theorem cellsS : Tryz.prog.cellsOf 9 = 1 := by kernel_rfl
theorem starE : "*" ++ "errors.errorString" = "*errors.errorString" := by decide
theorem rowE (u : TypeId) (h : Tryz.prog.typeName? 3 u = some "*errors.errorString") : u = 147 :=
  typeName_ptr_named (nm := "errors.errorString") (by rw [starE]; kernel_rfl) (by kernel_rfl) (by decide) u (by rw [starE]; exact h)

theorem ptabs_of {W : World} (h : laidMetH Tryz.prog Rows.registerLastsRow.laid W) : PTabs W := by
  have h0 : laidMet Tryz.prog [("math/bits.deBruijn32tab", Rows.laid_math_bits_deBruijn32tab), ("math/bits.deBruijn64tab", Rows.laid_math_bits_deBruijn64tab), ("internal/strconv.uint64pow10", Rows.laid_internal_strconv_uint64pow10), ("unicode/utf8.acceptRanges", Rows.laid_unicode_utf8_acceptRanges), ("strconv.ErrRange", Rows.laid_strconv_ErrRange), ("strconv.ErrSyntax", Rows.laid_strconv_ErrSyntax), ("unicode/utf8.first", Rows.laid_unicode_utf8_first)] W := h
  rw [first_data, accept_data, pow_data] at h0
  have htab : Tabs W := utf8Tabs_of_reads (ρ := Tryz.lays260_ren) Tryz.lays260 ⟨by kernel_rfl, by kernel_rfl, by kernel_rfl, by kernel_rfl, by kernel_rfl, by kernel_rfl, by kernel_rfl⟩
    (Lib.laidMet.reads h0 (.tail _ (.tail _ (.tail _ (.tail _ (.tail _ (.tail _ (.head _)))))))) (Lib.laidMet.reads h0 (.tail _ (.tail _ (.tail _ (.head _)))))
  have hpow := Lib.tabIs_of_head gP gPType Tryz.underlying135 Tryz.underlying96 (by kernel_rfl) (by kernel_rfl) h0.tail.tail
  obtain ⟨a0, s0, hv0, -, -, -⟩ := laid_sentinel h0.tail.tail.tail.tail gER gERType Tryz.underlying79 rowE Tryz.underlying147 Tryz.underlying149 rfl rfl Tryz.underlying9 cellsE cellsS
  obtain ⟨a1, s1, hv1, -, -, -⟩ := laid_sentinel h0.tail.tail.tail.tail.tail gES gESType Tryz.underlying79 rowE Tryz.underlying147 Tryz.underlying149 rfl rfl Tryz.underlying9 cellsE cellsS
  have lt : ∀ {n : String} {g : Nat} {cs : Array Value}, Tryz.prog.globalNamed n = some g → W.var? Tryz.prog n = some cs → g < W.heap.size := by
    intro n g cs hg hv
    unfold World.var? at hv
    simp only [hg, Option.bind_some] at hv
    rcases Nat.lt_or_ge g W.heap.size with h | h
    · exact h
    · rw [Array.getElem?_eq_none h] at hv; cases hv
  intro w' hb
  exact ⟨htab.below hb, var?_below hb gP (lt gP hpow) hpow, ⟨_, _, var?_below hb gES (lt gES hv1) hv1⟩, ⟨_, _, var?_below hb gER (lt gER hv0) hv0⟩⟩

/-- A WORLD FOR THE WITNESS: the settled one, the variables holding what their initialisers lay. -/
def cellsD : DataW Unit → Array Value
  | .agg l => (l.map fun | .lit (.int k z) => Value.int k z | _ => undef).toArray
  | _ => #[]
def setO (cs : Array Value) : Obj → Obj
  | .cells _ t frozen => .cells cs t frozen
  | o => o
def firstC : Array Value := ((List.range 256).map fun c => Value.int .u8 (Lib.firstT c)).toArray
def acceptC : Array Value := ((List.range 16).flatMap fun i => [Value.int .u8 (Lib.accLo i), Value.int .u8 (Lib.accHi i)]).toArray
abbrev synS : ByteArray := { data := #[105, 110, 118, 97, 108, 105, 100, 32, 115, 121, 110, 116, 97, 120] }
abbrev rngS : ByteArray := { data := #[118, 97, 108, 117, 101, 32, 111, 117, 116, 32, 111, 102, 32, 114, 97, 110, 103, 101] }
noncomputable def low : Nat := (World.holding Tryz.prog default ⟨#[], #[], []⟩).heap.size
noncomputable def laidWorld (os : Os) : World :=
  let w0 := World.holding Tryz.prog os ⟨#[.cells #[.string synS] 149, .cells #[.string rngS] 149], #[], []⟩
  { w0 with heap := ((((((w0.heap.modify 6 (setO firstC)).modify 7 (setO acceptC)).modify 1 (setO (Lib.pow10Tab.map fun z => Value.int .u64 z).toArray)).modify 4 (setO (cellsD Rows.laid_math_bits_deBruijn32tab))).modify 5 (setO (cellsD Rows.laid_math_bits_deBruijn64tab))).modify 2 (setO #[.iface 147 (.pointer (some ⟨low, 0, none⟩))])).modify 3 (setO #[.iface 147 (.pointer (some ⟨low + 1, 0, none⟩))]) }
#print axioms ptabs_of
end Go.Proofs.YtipoielcmaegaaaGreatDoor
