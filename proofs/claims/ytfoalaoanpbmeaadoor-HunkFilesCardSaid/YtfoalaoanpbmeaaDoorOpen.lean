/-
  Arguments that came in, opened: slices of bytes. What every row's proof of this seat uses.
-/
import Derived.Test.YtfoalaoanpbmeaaDoorRows
import Derived.Test.YtfoalaoanpbmeaaDoorBytes
import Derived.ProofKit
import Derived.OpenShut
import Derived.ShutString
import Derived.ChangeOld
import Derived.Below
import Derived.SizedLaws
namespace Go.Proofs.YtfoalaoanpbmeaaDoor
open Go.ChangeShapes Go.WideShapes Go.ChangeAt Go.RowKit
open Go.ChangeMaps (open_string shut_string)

theorem own : ownKnob Tryd.prog.godebug = none := by kernel_rfl
theorem laidOut : laidOutB Tryd.prog = true := by kernel_rfl

/-- Numbers of a byte's kind, as bytes. -/
theorem bytes_of_ints {zs : List Int} (hw : ∀ n ∈ zs, (Lit.int .u8 n).wf = true) (j : Nat) (hj : j < zs.length) : zs.getD j 0 = ((((zs.map fun n => UInt8.ofNat n.toNat).getD j 0).toNat : Nat) : Int) := by
  have h := hw zs[j] (List.getElem_mem hj)
  have hb : 0 ≤ zs[j] ∧ zs[j] ≤ 255 := by simpa [Lit.wf, IntKind.min, IntKind.max, IntKind.signed, IntKind.bits] using h
  simp [hj]
  omega

/-- A slice of bytes that came in. -/
theorem open_bytes {H : Type} {enc : TypeId × Value → H} {W : World} {a : Option Addr} {len cap : Nat} {d : DataW H} {p : List MemPlace}
    (h : DataW.Trod enc Tryd.prog W 0 (fun _ => true) true 52 (.slice a len cap) d p) :
    ∃ l, Bytes W a len cap l ∧ ((d = .nil ∧ cap = 0) ∨ ∃ elems spare, d = .slice elems spare ∧ elems.length + spare.length = cap) := by
  obtain ⟨fuel, hf⟩ := h
  rcases open_ints Tryd.underlying52 Tryd.underlying5 (by kernel_rfl) hf with ⟨hcs, hx⟩ | ⟨x, l, c, zs, hcs, _, hl, hm, hz, hx, hcell, hwz⟩
  · simp [Value.cells] at hcs
    obtain ⟨rfl, rfl, rfl⟩ := hcs
    simp only [Prod.mk.injEq] at hx
    exact ⟨[], Bytes.nil W, .inl ⟨hx.1, rfl⟩⟩
  · simp [Value.cells] at hcs
    obtain ⟨rfl, rfl, rfl⟩ := hcs
    simp only [ite_true] at hz
    simp only [Prod.mk.injEq] at hx
    have hb := bytes_of_ints hwz
    refine ⟨(zs.map fun n => UInt8.ofNat n.toNat).take len, ⟨by simp; omega, hl, by unfold maxLen at hm; omega, ?_⟩, .inr ⟨_, _, hx.1, ?_⟩⟩
    · by_cases hc : cap = 0
      · exact .inl ⟨by omega, hc⟩
      · have h0 := World.cell?_spot (hcell 0 (by omega))
        obtain ⟨b, off, spot⟩ := x
        have hspot : spot = none := by simpa [Addr.add] using h0
        subst hspot
        refine .inr ⟨b, off, rfl, fun j hj => ?_⟩
        have := hcell j (by omega)
        rw [Addr.add_lit] at this
        rw [this, hb j (by omega)]
        simp [hj]
    · simp [lits]; omega

/-- Within the form's own reach. -/
theorem len_of_size {H : Type} {ts : List TypeId} {ds : List (DataW H)} (h : (DataW.weightsEach Tryd.prog ts ds).all (· ≤ reachBytes) = true) {j : Nat} {d : DataW H} {cap : Nat}
    (ht : ts[j]? = some 52) (hd : ds[j]? = some d) (hb : (d = .nil ∧ cap = 0) ∨ ∃ elems spare, d = .slice elems spare ∧ elems.length + spare.length = cap) : cap ≤ 140737488351232 := by
  rcases hb with ⟨_, rfl⟩ | ⟨elems, spare, rfl, rfl⟩
  · omega
  · have hb1 : Tryd.prog.bytesOf 5 = 1 := by kernel_rfl
    have := sized_slice h ht hd Tryd.underlying52
    rw [hb1] at this
    have hr : reachBytes = 140737488351232 := by decide
    omega

theorem str_of_size {H : Type} {ts : List TypeId} {ds : List (DataW H)} (h : (DataW.weightsEach Tryd.prog ts ds).all (· ≤ reachBytes) = true) {j : Nat} {t : TypeId} {s : ByteArray}
    (ht : ts[j]? = some t) (hd : ds[j]? = some (.lit (.string s.data.toList))) : s.size ≤ 140737488351232 := by
  have := sized_string h ht hd
  have hr : reachBytes = 140737488351232 := by decide
  have hs : s.data.toList.length = s.size := by simp
  omega

theorem lt_of_trod {H : Type} {enc : TypeId × Value → H} {W : World} {t : TypeId} {v : Value} {d : DataW H} {p : List MemPlace}
    (h : DataW.Trod enc Tryd.prog W 0 (fun _ => true) true t v d p) : ∀ x ∈ p, x.block < W.heap.size := by
  obtain ⟨m, hm⟩ := h
  exact DataW.trod_lt m _ _ _ hm
end Go.Proofs.YtfoalaoanpbmeaaDoor
