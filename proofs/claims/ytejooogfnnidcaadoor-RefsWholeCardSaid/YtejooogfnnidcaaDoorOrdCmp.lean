/-
  The walk of order.Compare: bytes.Compare of two ids.
-/
import Derived.Test.YtejooogfnnidcaaDoorIds
import Derived.Test.YtejooogfnnidcaaDoorOrdMath
import Derived.Lib.Bytealg
import Derived.Lib.BytesEntry
import Derived.Deep.QuietTactic
import Derived.BigQuiet
import Derived.WalkSmall
namespace Go.Proofs.YtejooogfnnidcaaDoor
open Go.RowKit

theorem retZ {a b : Int} (h : a = b) : Ending.returned (.int .i64 a) = .returned (.int .i64 b) := by rw [h]

theorem compareBytes_eq : ∀ a b : List UInt8, Lib.compareBytes a b = cmpF a b
  | [], [] => rfl
  | [], _ :: _ => rfl
  | _ :: _, [] => rfl
  | x :: a, y :: b => by
    unfold Lib.compareBytes cmpF
    rw [compareBytes_eq a b]
    simp only [UInt8.lt_iff_toNat_lt]

/-- What the entry reads off a slice of bytes. -/
theorem run_bytesOf {w : World} {a : Option Addr} {n c : Nat} {l : List UInt8} (h : Bytes w a n c l) :
    (Extern.Bytes.bytesOf (.slice a n c)).run Tryd.prog w = .ok (strB l) w := by
  obtain ⟨h1, h2, h3, h4⟩ := h
  rcases h4 with ⟨rfl, rfl⟩ | ⟨b, off, rfl, hc⟩
  · have : l = [] := List.length_eq_zero_iff.1 h1
    subst this
    cases a with
    | none => rfl
    | some ad => rfl
  · have hl := Lib.run_loadBytesX (P := Tryd.prog) w (l.map fun x => (x.toNat : Int)) ⟨b, off, none⟩ .empty (fun j x hj => by
      rw [List.getElem?_map] at hj
      have hjl : j < l.length := by
        rcases Nat.lt_or_ge j l.length with h | h
        · exact h
        · rw [List.getElem?_eq_none h] at hj; cases hj
      simp only [List.getElem?_eq_getElem hjl, Option.map_some, Option.some.injEq] at hj
      subst hj
      rw [Addr.add_lit, hc j (by omega)]
      simp [hjl])
    rw [List.length_map, h1] at hl
    show (Extern.Bytes.loadBytes ⟨b, off, none⟩ n .empty).run Tryd.prog w = _
    rw [hl]
    congr 1
    apply ByteArray.ext
    show (#[] : Array UInt8) ++ _ = _
    simp [Lib.bytesOf, strB, Function.comp_def]

theorem run_cmp {w : World} {a : Option Addr} {n c : Nat} {l : List UInt8} {b : Option Addr} {m d : Nat} {k : List UInt8} (h : Bytes w a n c l) (h' : Bytes w b m d k) :
    (Extern.BytealgCompare.compare #[.slice a n c, .slice b m d]).run Tryd.prog w = .ok (.int .i64 (cmpF l k)) w := by
  change Sem.run Tryd.prog (do pure (goInt (Extern.BytealgCompare.cmp (← Extern.Bytes.bytesOf (.slice a n c)) (← Extern.Bytes.bytesOf (.slice b m d))))) w = _
  simp only [Sem.run_bind, run_bytesOf h, run_bytesOf h', Result.andThen_ok, Sem.run_pure]
  rw [Lib.cmp_eq, compareBytes_eq, strB_list, strB_list]
  rfl

set_option maxRecDepth 100000 in
set_option maxHeartbeats 400000 in
theorem bcompare_any (a : Option Addr) (n c : Nat) (l : List UInt8) (b : Option Addr) (m d : Nat) (k : List UInt8) (w : World) (h : Bytes w a n c l) (h' : Bytes w b m d k) :
    Calls Tryd.prog 70 #[.slice a n c, .slice b m d] w fun e w' => e = .returned (.int .i64 (cmpF l k)) ∧ w = w' := by
  have H := Lib.hid (run_cmp h h')
  clear h h'
  go_enter Tryd.func70, Tryd.ntmps70
  go_wp2
  rw [run_callFunc_extern Tryd.func78 (by kernel_rfl) (by kernel_rfl) (by kernel_rfl) (e := Extern.BytealgCompare.compare) (by kernel_rfl), H.out]
  simp only [Result.andThen]
  rw [Oper.upon_value]
  go_wp2
  go_ret
  exact ⟨rfl, rfl⟩
#print axioms bcompare_any

/-- Two ids. -/
def CmpIs (l k : List UInt8) (w : World) (e : Ending) (w' : World) : Prop := e = .returned (.int .i64 (cmpF l k)) ∧ Below w.heap.size w w'

theorem IdAt.bytes {w : World} {g : Nat} {l : List UInt8} (h : IdAt w g l) : Bytes w (some ⟨g, 0, none⟩) 32 32 l :=
  ⟨h.1, Nat.le_refl _, by omega, .inr ⟨g, 0, rfl, fun j hj => by rw [Nat.zero_add, h.cell j hj]; rfl⟩⟩

set_option maxRecDepth 100000 in
set_option maxHeartbeats 400000 in
theorem compare_any (l k : List UInt8) (w : World) (hl : l.length = 32) (hk : k.length = 32) :
    Calls Tryd.prog 60 #[.agg (idCells l), .agg (idCells k)] w (CmpIs l k w) := by
  have hA : IdAt ((w.alloc (.cells (idCells l) 24)).alloc (.cells (idCells k) 24)) w.heap.size l :=
    ⟨hl, by rw [heap_alloc_old (h := by simp), heap_alloc_new]⟩
  have hB : IdAt ((w.alloc (.cells (idCells l) 24)).alloc (.cells (idCells k) 24)) (w.heap.size + 1) k :=
    ⟨hk, by have := heap_alloc_new (w.alloc (.cells (idCells l) 24)) (.cells (idCells k) 24); simpa using this⟩
  have HA := Lib.hid hA.bytes
  have HB := Lib.hid hB.bytes
  clear hA hB hl hk
  go_enter Tryd.func60, Tryd.ntmps60
  go_wp2
  go_quiet ((go_at_call 70; exact Calls.quiet_of_same ((bcompare_any _ _ _ _ _ _ _ _ _ (HA.out.below (below_drewN (Below.refl _ _) _)) (HB.out.below (below_drewN (Below.refl _ _) _))).mono fun e w' ⟨h1, h2⟩ => ⟨h1, h2.symm⟩)))
  go_wp2
  go_ret
  exact ⟨rfl, below_drewN ((((Below.refl _ _).alloc (Nat.le_refl _) _).alloc (by simp) _)) _⟩
#print axioms compare_any
end Go.Proofs.YtejooogfnnidcaaDoor
