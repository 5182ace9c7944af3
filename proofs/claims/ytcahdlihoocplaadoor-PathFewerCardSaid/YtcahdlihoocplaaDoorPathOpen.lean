/-
  What the rows' list of variables gives; a world for the witness; slices of texts that came in.
-/
import Derived.Test.YtcahdlihoocplaaDoorCards
import Derived.Test.YtcahdlihoocplaaDoorTie
import Derived.Test.YtcahdlihoocplaaDoorOpen
import Derived.Test.YtcahdlihoocplaaDoorNumBehind
import Derived.Test.YtcahdlihoocplaaDoorOneG
import Derived.WalkKit
import Derived.ProofKit
import Derived.OpenShut
import Derived.Deep.DeepHandedRow
import Derived.Lib.LaidU8T
import Derived.Lib.LaidTab
import Derived.Stop.LaidErr
import Derived.WalkSmall
namespace Go.Proofs.YtcahdlihoocplaaDoor
open Go.ChangeShapes Go.WideShapes Go.ChangeAt Go.RowKit

theorem first_data : Rows.laid_unicode_utf8_first = Lib.firstData := by kernel_rfl
theorem accept_data : (Rows.laid_unicode_utf8_acceptRanges : DataW Unit) = Lib.acceptData := by kernel_rfl
theorem pow_data : (Rows.laid_internal_strconv_uint64pow10 : DataW Unit) = Lib.tabData .u64 Lib.pow10Tab := by kernel_rfl

theorem gP : Tryd.prog.globalNamed "internal/strconv.uint64pow10" = some 1 := by kernel_rfl
theorem gPType : (Tryd.prog.globals[1]?).map (·.type) = some 91 := by kernel_rfl
theorem gES : Tryd.prog.globalNamed "strconv.ErrSyntax" = some 2 := by kernel_rfl
theorem gESType : (Tryd.prog.globals[2]?).map (·.type) = some 61 := by kernel_rfl
theorem gER : Tryd.prog.globalNamed "strconv.ErrRange" = some 3 := by kernel_rfl
theorem gERType : (Tryd.prog.globals[3]?).map (·.type) = some 61 := by kernel_rfl
theorem cellsE : Tryd.prog.cellsOf 110 = 1 := by kernel_rfl
theorem cellsS : Tryd.prog.cellsOf 9 = 1 := by kernel_rfl
theorem starE : "*" ++ "errors.errorString" = "*errors.errorString" := by decide
theorem rowE (u : TypeId) (h : Tryd.prog.typeName? 3 u = some "*errors.errorString") : u = 108 :=
  typeName_ptr_named (nm := "errors.errorString") (by rw [starE]; kernel_rfl) (by kernel_rfl) (by decide) u (by rw [starE]; exact h)

theorem ptabs_of {W : World} (h : laidMetH Tryd.prog Rows.pathBytesRow.laid W) : PTabs W := by
  have h0 : laidMet Tryd.prog [("math/bits.deBruijn32tab", Rows.laid_math_bits_deBruijn32tab), ("math/bits.deBruijn64tab", Rows.laid_math_bits_deBruijn64tab), ("internal/strconv.uint64pow10", Rows.laid_internal_strconv_uint64pow10), ("unicode/utf8.acceptRanges", Rows.laid_unicode_utf8_acceptRanges), ("strconv.ErrRange", Rows.laid_strconv_ErrRange), ("strconv.ErrSyntax", Rows.laid_strconv_ErrSyntax), ("unicode/utf8.first", Rows.laid_unicode_utf8_first)] W := h
  rw [first_data, accept_data, pow_data] at h0
  have htab : Tabs W := utf8Tabs_of_reads (ρ := Tryd.lays260_ren) Tryd.lays260 ⟨by kernel_rfl, by kernel_rfl, by kernel_rfl, by kernel_rfl, by kernel_rfl, by kernel_rfl, by kernel_rfl⟩
    (Lib.laidMet.reads h0 (.tail _ (.tail _ (.tail _ (.tail _ (.tail _ (.tail _ (.head _)))))))) (Lib.laidMet.reads h0 (.tail _ (.tail _ (.tail _ (.head _)))))
  have hpow := Lib.tabIs_of_head gP gPType Tryd.underlying91 Tryd.underlying40 (by kernel_rfl) (by kernel_rfl) h0.tail.tail
  obtain ⟨a0, s0, hv0, -, -, -⟩ := laid_sentinel h0.tail.tail.tail.tail gER gERType Tryd.underlying61 rowE Tryd.underlying108 Tryd.underlying110 rfl rfl Tryd.underlying9 cellsE cellsS
  obtain ⟨a1, s1, hv1, -, -, -⟩ := laid_sentinel h0.tail.tail.tail.tail.tail gES gESType Tryd.underlying61 rowE Tryd.underlying108 Tryd.underlying110 rfl rfl Tryd.underlying9 cellsE cellsS
  have lt : ∀ {n : String} {g : Nat} {cs : Array Value}, Tryd.prog.globalNamed n = some g → W.var? Tryd.prog n = some cs → g < W.heap.size := by
    intro n g cs hg hv
    unfold World.var? at hv
    simp only [hg, Option.bind_some] at hv
    rcases Nat.lt_or_ge g W.heap.size with h | h
    · exact h
    · rw [Array.getElem?_eq_none h] at hv; cases hv
  intro w' hb
  exact ⟨htab.below hb, var?_below hb gP (lt gP hpow) hpow, ⟨_, _, var?_below hb gES (lt gES hv1) hv1⟩, ⟨_, _, var?_below hb gER (lt gER hv0) hv0⟩⟩

/-- A WORLD FOR THE WITNESS: the settled one, the variables holding what their initialisers lay. -/
def cellsD : DataW Unit → Array Value
  | .agg l => (l.map fun | .lit (.int k z) => Value.int k z | _ => undef).toArray
  | _ => #[]
def setO (cs : Array Value) : Obj → Obj
  | .cells _ t frozen => .cells cs t frozen
  | o => o
def firstC : Array Value := ((List.range 256).map fun c => Value.int .u8 (Lib.firstT c)).toArray
def acceptC : Array Value := ((List.range 16).flatMap fun i => [Value.int .u8 (Lib.accLo i), Value.int .u8 (Lib.accHi i)]).toArray
abbrev synS : ByteArray := { data := #[105, 110, 118, 97, 108, 105, 100, 32, 115, 121, 110, 116, 97, 120] }
abbrev rngS : ByteArray := { data := #[118, 97, 108, 117, 101, 32, 111, 117, 116, 32, 111, 102, 32, 114, 97, 110, 103, 101] }
noncomputable def low : Nat := (World.holding Tryd.prog default ⟨#[], #[], []⟩).heap.size
noncomputable def laidWorld (os : Os) : World :=
  let w0 := World.holding Tryd.prog os ⟨#[.cells #[.string synS] 110, .cells #[.string rngS] 110], #[], []⟩
  { w0 with heap := ((((((w0.heap.modify 4 (setO firstC)).modify 5 (setO acceptC)).modify 1 (setO (Lib.pow10Tab.map fun z => Value.int .u64 z).toArray)).modify 6 (setO (cellsD Rows.laid_math_bits_deBruijn32tab))).modify 7 (setO (cellsD Rows.laid_math_bits_deBruijn64tab))).modify 2 (setO #[.iface 108 (.pointer (some ⟨low, 0, none⟩))])).modify 3 (setO #[.iface 108 (.pointer (some ⟨low + 1, 0, none⟩))]) }
theorem laid_try (os : Os) : laidMet Tryd.prog Rows.pathBytesRow.laid ((laidWorld os).forCall (fun _ _ => 0) ⟨#[], #[.string ByteArray.empty], []⟩).memory :=
  laidMet_of_run' 8 (by kernel_rfl) (by kernel_rfl)

theorem strs_ofG {ss : List ByteArray} {n j : Nat} (hj : j < n) (hn : n ≤ ss.length) : strB (((ss.take n).map fun s => s.data.toList).getD j default) = ss.getD j ByteArray.empty := by
  have h1 : j < ss.length := by omega
  simp [hj, h1, strB_of]
/-- A slice of texts that came in. -/
theorem open_texts {H : Type} {enc : TypeId × Value → H} {W : World} {a : Option Addr} {len cap : Nat} {d : DataW H} {p : List MemPlace}
    (h : DataW.Trod enc Tryd.prog W 0 (fun _ => true) true 24 (.slice a len cap) d p) :
    ∃ l, At1 St W a len cap l ∧ (∀ j, j < len → (l.getD j default).length ≤ maxLen) ∧ ∀ j, j < len → ∃ s : ByteArray, s.data.toList = l.getD j default := by
  obtain ⟨fuel, hf⟩ := h
  rcases open_strings Tryd.underlying24 Tryd.underlying9 (by kernel_rfl) hf with ⟨hcs, hx⟩ | ⟨x, l, c, ss, hcs, _, hl, hm, hz, hx, hcell, hwz⟩
  · simp [Value.cells] at hcs
    obtain ⟨rfl, rfl, rfl⟩ := hcs
    exact ⟨[], At1.nil, fun j hj => by omega, fun j hj => by omega⟩
  · simp [Value.cells] at hcs
    obtain ⟨rfl, rfl, rfl⟩ := hcs
    simp only [ite_true] at hz
    refine ⟨(ss.take len).map fun s => s.data.toList, ⟨by simp; omega, hl, by unfold maxLen at hm; omega, ?_⟩, fun j hj => ?_, fun j hj => ⟨strB (((ss.take len).map fun s => s.data.toList).getD j default), strB_list _⟩⟩
    · by_cases hc : cap = 0
      · exact .inl ⟨by omega, hc⟩
      · have h0 := World.cell?_spot (hcell 0 (by omega))
        obtain ⟨b, off, spot⟩ := x
        have hspot : spot = none := by simpa [Addr.add] using h0
        subst hspot
        refine .inr ⟨b, off, rfl, fun j hj => ?_⟩
        have := hcell j (by omega)
        rw [Addr.add_lit] at this
        rw [this]
        show _ = some (Value.string (strB _))
        rw [strs_ofG hj (by omega)]
    · have h2 := hwz (ss.getD j ByteArray.empty) (by
        rw [List.getD_eq_getElem?_getD, List.getElem?_eq_getElem (by omega)]; exact List.getElem_mem _)
      rw [← strs_ofG hj (by omega), strB_size] at h2
      exact h2
end Go.Proofs.YtcahdlihoocplaaDoor
