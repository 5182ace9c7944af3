/-
  Merged: OrdCmp, OrdRefCmp, OrdKeys, OrdKey, OrdKeysW.
-/
import Derived.Test.YtipoielcmaegaaaGreatDoorIds
import Derived.Test.YtipoielcmaegaaaGreatDoorOrdMath
import Derived.Lib.Bytealg
import Derived.Lib.BytesEntry
import Derived.Deep.QuietTactic
import Derived.BigQuiet
import Derived.WalkSmall
import Derived.Deep.LoopGhost
import Derived.Deep.RegionHeld
namespace Go.Proofs.YtipoielcmaegaaaGreatDoor
open Go.RowKit

theorem retZ {a b : Int} (h : a = b) : Ending.returned (.int .i64 a) = .returned (.int .i64 b) := by rw [h]

theorem compareBytes_eq : ∀ a b : List UInt8, Lib.compareBytes a b = cmpF a b
  | [], [] => rfl
  | [], _ :: _ => rfl
  | _ :: _, [] => rfl
  | x :: a, y :: b => by
    unfold Lib.compareBytes cmpF
    rw [compareBytes_eq a b]
    simp only [UInt8.lt_iff_toNat_lt]

/-- What the entry reads off a slice of bytes. -/
theorem run_bytesOf {w : World} {a : Option Addr} {n c : Nat} {l : List UInt8} (h : Bytes w a n c l) :
    (Extern.Bytes.bytesOf (.slice a n c)).run Tryz.prog w = .ok (strB l) w := by
  obtain ⟨h1, h2, h3, h4⟩ := h
  rcases h4 with ⟨rfl, rfl⟩ | ⟨b, off, rfl, hc⟩
  · have : l = [] := List.length_eq_zero_iff.1 h1
    subst this
    cases a with
    | none => rfl
    | some ad => rfl
  · have hl := Lib.run_loadBytesX (P := Tryz.prog) w (l.map fun x => (x.toNat : Int)) ⟨b, off, none⟩ .empty (fun j x hj => by
      rw [List.getElem?_map] at hj
      have hjl : j < l.length := by
        rcases Nat.lt_or_ge j l.length with h | h
        · exact h
        · rw [List.getElem?_eq_none h] at hj; cases hj
      simp only [List.getElem?_eq_getElem hjl, Option.map_some, Option.some.injEq] at hj
      subst hj
      rw [Addr.add_lit, hc j (by omega)]
      simp [hjl])
    rw [List.length_map, h1] at hl
    show (Extern.Bytes.loadBytes ⟨b, off, none⟩ n .empty).run Tryz.prog w = _
    rw [hl]
    congr 1
    apply ByteArray.ext
    show (#[] : Array UInt8) ++ _ = _
    simp [Lib.bytesOf, strB, Function.comp_def]

theorem run_cmp {w : World} {a : Option Addr} {n c : Nat} {l : List UInt8} {b : Option Addr} {m d : Nat} {k : List UInt8} (h : Bytes w a n c l) (h' : Bytes w b m d k) :
    (Extern.BytealgCompare.compare #[.slice a n c, .slice b m d]).run Tryz.prog w = .ok (.int .i64 (cmpF l k)) w := by
  change Sem.run Tryz.prog (do pure (goInt (Extern.BytealgCompare.cmp (← Extern.Bytes.bytesOf (.slice a n c)) (← Extern.Bytes.bytesOf (.slice b m d))))) w = _
  simp only [Sem.run_bind, run_bytesOf h, run_bytesOf h', Result.andThen_ok, Sem.run_pure]
  rw [Lib.cmp_eq, compareBytes_eq, strB_list, strB_list]
  rfl

set_option maxRecDepth 100000 in
set_option maxHeartbeats 400000 in
theorem bcompare_any (a : Option Addr) (n c : Nat) (l : List UInt8) (b : Option Addr) (m d : Nat) (k : List UInt8) (w : World) (h : Bytes w a n c l) (h' : Bytes w b m d k) :
    Calls Tryz.prog 64 #[.slice a n c, .slice b m d] w fun e w' => e = .returned (.int .i64 (cmpF l k)) ∧ w = w' := by
  have H := Lib.hid (run_cmp h h')
  clear h h'
  go_enter Tryz.func64, Tryz.ntmps64
  go_wp2
  rw [run_callFunc_extern Tryz.func85 (by kernel_rfl) (by kernel_rfl) (by kernel_rfl) (e := Extern.BytealgCompare.compare) (by kernel_rfl), H.out]
  simp only [Result.andThen]
  rw [Oper.upon_value]
  go_wp2
  go_ret
  exact ⟨rfl, rfl⟩
#print axioms bcompare_any

/-- Two ids. -/
def CmpIs (l k : List UInt8) (w : World) (e : Ending) (w' : World) : Prop := e = .returned (.int .i64 (cmpF l k)) ∧ Below w.heap.size w w'

theorem IdAt.bytes {w : World} {g : Nat} {l : List UInt8} (h : IdAt w g l) : Bytes w (some ⟨g, 0, none⟩) 32 32 l :=
  ⟨h.1, Nat.le_refl _, by omega, .inr ⟨g, 0, rfl, fun j hj => by rw [Nat.zero_add, h.cell j hj]; rfl⟩⟩

set_option maxRecDepth 100000 in
set_option maxHeartbeats 400000 in
theorem compare_any (l k : List UInt8) (w : World) (hl : l.length = 32) (hk : k.length = 32) :
    Calls Tryz.prog 43 #[.agg (idCells l), .agg (idCells k)] w (CmpIs l k w) := by
  have hA : IdAt ((w.alloc (.cells (idCells l) 33)).alloc (.cells (idCells k) 33)) w.heap.size l :=
    ⟨hl, by rw [heap_alloc_old (h := by simp), heap_alloc_new]⟩
  have hB : IdAt ((w.alloc (.cells (idCells l) 33)).alloc (.cells (idCells k) 33)) (w.heap.size + 1) k :=
    ⟨hk, by have := heap_alloc_new (w.alloc (.cells (idCells l) 33)) (.cells (idCells k) 33); simpa using this⟩
  have HA := Lib.hid hA.bytes
  have HB := Lib.hid hB.bytes
  clear hA hB hl hk
  go_enter Tryz.func43, Tryz.ntmps43
  go_wp2
  go_quiet ((go_at_call 64; exact Calls.quiet_of_same ((bcompare_any _ _ _ _ _ _ _ _ _ (HA.out.below (below_drewN (Below.refl _ _) _)) (HB.out.below (below_drewN (Below.refl _ _) _))).mono fun e w' ⟨h1, h2⟩ => ⟨h1, h2.symm⟩)))
  go_wp2
  go_ret
  exact ⟨rfl, below_drewN ((((Below.refl _ _).alloc (Nat.le_refl _) _).alloc (by simp) _)) _⟩
#print axioms compare_any
end Go.Proofs.YtipoielcmaegaaaGreatDoor

namespace Go.Proofs.YtipoielcmaegaaaGreatDoor
open Go.RowKit

theorem two_boxes (w : World) (l k : List UInt8) (hl : l.length = 32) (hk : k.length = 32) :
    IdAt ((w.alloc (.cells (idCells l) 33)).alloc (.cells (idCells k) 33)) w.heap.size l ∧
    IdAt ((w.alloc (.cells (idCells l) 33)).alloc (.cells (idCells k) 33)) (w.heap.size + 1) k :=
  ⟨⟨hl, by rw [heap_alloc_old (h := by simp), heap_alloc_new]⟩,
   ⟨hk, by have := heap_alloc_new (w.alloc (.cells (idCells l) 33)) (.cells (idCells k) 33); simpa using this⟩⟩

/-- As far as the two are alike. -/
def SameTo (l k : List UInt8) (j : Nat) : Prop := l.take j = k.take j

theorem SameTo.lt {l k : List UInt8} {j : Nat} (h : SameTo l k j) (hl : j < l.length) (hk : j < k.length) (hc : (l.getD j 0).toNat < (k.getD j 0).toNat) : cmpF l k = -1 := by
  rw [cmpF_at j l k h hl hk, if_pos hc]
theorem SameTo.gt {l k : List UInt8} {j : Nat} (h : SameTo l k j) (hl : j < l.length) (hk : j < k.length) (hc : (k.getD j 0).toNat < (l.getD j 0).toNat) : cmpF l k = 1 := by
  rw [cmpF_at j l k h hl hk, if_neg (by omega), if_pos hc]
theorem SameTo.next {l k : List UInt8} {j : Nat} (h : SameTo l k j) (hl : j < l.length) (hk : j < k.length) (h1 : ¬ (l.getD j 0).toNat < (k.getD j 0).toNat) (h2 : ¬ (k.getD j 0).toNat < (l.getD j 0).toNat) : SameTo l k (j + 1) := by
  unfold SameTo at h ⊢
  rw [List.take_succ_eq_append_getElem hl, List.take_succ_eq_append_getElem hk, h]
  have e : (l.getD j 0) = (k.getD j 0) := UInt8.toNat_inj.1 (by omega)
  simp [hl, hk] at e
  rw [e]
theorem SameTo.all {l k : List UInt8} (h : SameTo l k 32) (hl : l.length = 32) (hk : k.length = 32) : cmpF l k = 0 := by
  unfold SameTo at h
  rw [List.take_of_length_le (by omega), List.take_of_length_le (by omega)] at h
  rw [h, cmpF_self]

set_option maxRecDepth 100000 in
set_option maxHeartbeats 1000000 in
theorem refCompare_any (l k : List UInt8) (w : World) (hl : l.length = 32) (hk : k.length = 32) :
    Calls Tryz.prog 38 #[.agg (idCells l), .agg (idCells k)] w (CmpIs l k w) := by
  obtain ⟨hA, hB⟩ := two_boxes w l k hl hk
  have HA := Lib.hid hA
  have HB := Lib.hid hB
  have HL := Lib.hid hl
  have HK := Lib.hid hk
  have HI := Lib.hid (show SameTo l k 0 from rfl)
  clear hA hB hl hk
  go_enter Tryz.func38, Tryz.ntmps38
  go_wp2
  go_loopg [5] 32 (fun g v5 W => ∃ j : Nat, Below ((w.alloc (.cells (idCells l) 33)).alloc (.cells (idCells k) 33)).heap.size ((w.alloc (.cells (idCells l) 33)).alloc (.cells (idCells k) 33)) W ∧ v5 = .int .i64 j ∧ g + j = 32 ∧ Hid (SameTo l k j))
  case atStart => exact ⟨0, Below.refl _ _, rfl, rfl, HI⟩
  case round =>
    obtain ⟨j, hbw, rfl, hg, hinv⟩ := hrel
    have HG := Lib.hid hg
    have hb2 := ((((Below.refl w.heap.size w).alloc (Nat.le_refl _) (.cells (idCells l) 33)).alloc (by simp) (.cells (idCells k) 33)).trans (hbw.mono (by simp; omega)))
    by_cases hj : (j : Int) < 32
    · have ha := (HA.out.below hbw).cell j (by omega)
      have hb := (HB.out.below hbw).cell j (by omega)
      have hj' : j < 32 := by omega
      obtain ⟨x, hx⟩ : ∃ x : Int, x = ((l.getD j 0).toNat : Int) := ⟨_, rfl⟩
      obtain ⟨y, hy⟩ : ∃ y : Int, y = ((k.getD j 0).toNat : Int) := ⟨_, rfl⟩
      unfold B at ha hb
      rw [← hx] at ha
      rw [← hy] at hb
      have HX := Lib.hid hx
      have HY := Lib.hid hy
      have HJ := Lib.hid hj'
      have h0 : (0 : Int) ≤ (j : Int) := by omega
      clear hx hy hg hj'
      by_cases h1 : x < y
      · have HE := Lib.hid (hinv.out.lt (by rw [HL.out]; exact HJ.out) (by rw [HK.out]; exact HJ.out) (by have := HX.out; have := HY.out; omega))
        go_wp2
        go_quiet (fail)
        go_wp2
        go_ret
        exact ⟨by rw [HE.out]; rfl, below_drewN hb2 _⟩
      · by_cases h2 : y < x
        · have HE := Lib.hid (hinv.out.gt (by rw [HL.out]; exact HJ.out) (by rw [HK.out]; exact HJ.out) (by have := HX.out; have := HY.out; omega))
          have d1 : decide (x < y) = false := decide_eq_false h1
          clear h1
          go_wp2
          go_quiet (fail)
          go_wp2
          go_quiet (fail)
          go_wp2
          go_ret
          exact ⟨by rw [HE.out]; rfl, below_drewN (below_drewN hb2 _) _⟩
        · have HN := Lib.hid (hinv.out.next (by rw [HL.out]; exact HJ.out) (by rw [HK.out]; exact HJ.out) (by have := HX.out; have := HY.out; omega) (by have := HX.out; have := HY.out; omega))
          have d1 : decide (x < y) = false := decide_eq_false h1
          have d2 : decide (y < x) = false := decide_eq_false h2
          clear h1 h2
          go_wp2
          go_quiet (fail)
          go_wp2
          go_quiet (fail)
          go_wp2
          go_roundg (gk - 1)
          case measure => have := HG.out; omega
          case rel => exact ⟨j + 1, below_drewN hbw _, by go_num, by have := HG.out; omega, HN⟩
    · have HE := Lib.hid ((show SameTo l k 32 by have := hinv.out; have hj32 : j = 32 := (by omega); rw [hj32] at this; exact this).all HL.out HK.out)
      clear hg
      go_wp2
      go_ret
      exact ⟨by rw [HE.out]; rfl, hb2⟩
#print axioms refCompare_any
end Go.Proofs.YtipoielcmaegaaaGreatDoor

namespace Go.Proofs.YtipoielcmaegaaaGreatDoor
open Go.RowKit

/-- Which of two numbers stands ahead. -/
def intF (a b : Int) : Int := if a < b then -1 else if b < a then 1 else 0

set_option maxRecDepth 100000 in
set_option maxHeartbeats 400000 in
theorem cmpInt_any (a b : Int) (w : World) : Calls Tryz.prog 42 #[.int .i64 a, .int .i64 b] w fun e w' => e = .returned (.int .i64 (intF a b)) ∧ w = w' := by
  by_cases h1 : a < b
  · have HE := Lib.hid (show intF a b = -1 by unfold intF; rw [if_pos h1])
    go_enter Tryz.func42, Tryz.ntmps42
    go_wp2
    go_ret
    exact ⟨by rw [HE.out]; rfl, rfl⟩
  · by_cases h2 : b < a
    · have HE := Lib.hid (show intF a b = 1 by unfold intF; rw [if_neg h1, if_pos h2])
      have d1 : decide (a < b) = false := decide_eq_false h1
      clear h1
      go_enter Tryz.func42, Tryz.ntmps42
      go_wp2
      go_ret
      exact ⟨by rw [HE.out]; rfl, rfl⟩
    · have HE := Lib.hid (show intF a b = 0 by unfold intF; rw [if_neg h1, if_neg h2])
      have d1 : decide (a < b) = false := decide_eq_false h1
      have d2 : decide (b < a) = false := decide_eq_false h2
      clear h1 h2
      go_enter Tryz.func42, Tryz.ntmps42
      go_wp2
      go_ret
      exact ⟨by rw [HE.out]; rfl, rfl⟩

/-- The first of three that is not 0. -/
def orF (x y z : Int) : Int := if x ≠ 0 then x else if y ≠ 0 then y else z

set_option maxRecDepth 100000 in
set_option maxHeartbeats 400000 in
theorem or_any (g : Nat) (x y z : Int) (w : World) (h0 : w.cell? ⟨g, 0, none⟩ = some (.int .i64 x)) (h1 : w.cell? ⟨g, 1, none⟩ = some (.int .i64 y)) (h2 : w.cell? ⟨g, 2, none⟩ = some (.int .i64 z)) :
    Calls Tryz.prog 41 #[.slice (some ⟨g, 0, none⟩) 3 3] w fun e w' => e = .returned (.int .i64 (orF x y z)) ∧ w = w' := by
  by_cases hx : x = 0
  · by_cases hy : y = 0
    · have HE := Lib.hid (show orF x y z = z by unfold orF; rw [if_neg (by simp [hx]), if_neg (by simp [hy])])
      have dx : (x != 0) = false := by simp [hx]
      have dy : (y != 0) = false := by simp [hy]
      clear hx hy
      by_cases hz : z = 0
      · have dz : (z != 0) = false := by simp [hz]
        have HZ := Lib.hid hz
        clear hz
        go_enter Tryz.func41, Tryz.ntmps41
        go_wp2
        go_loopg [8] 3 (fun g' v8 W => ∃ j : Nat, w = W ∧ v8 = .int .i64 j ∧ g' + j = 3)
        case atStart => exact ⟨0, rfl, rfl, rfl⟩
        case round =>
          obtain ⟨j, rfl, rfl, hg⟩ := hrel
          have hc : j = 0 ∨ j = 1 ∨ j = 2 ∨ j = 3 := by omega
          rcases hc with rfl | rfl | rfl | rfl
          · go_wp2
            go_roundg 2
            case measure => omega
            case rel => exact ⟨1, rfl, rfl, rfl⟩
          · go_wp2
            go_roundg 1
            case measure => omega
            case rel => exact ⟨2, rfl, rfl, rfl⟩
          · go_wp2
            go_roundg 0
            case measure => omega
            case rel => exact ⟨3, rfl, rfl, rfl⟩
          · go_wp2
            go_ret
            exact ⟨by rw [HE.out, HZ.out]; rfl, rfl⟩
      · have dz : (z != 0) = true := by simpa using hz
        clear hz
        go_enter Tryz.func41, Tryz.ntmps41
        go_wp2
        go_loopg [8] 3 (fun g' v8 W => ∃ j : Nat, w = W ∧ v8 = .int .i64 j ∧ g' + j = 3 ∧ j ≤ 2)
        case atStart => exact ⟨0, rfl, rfl, rfl, by omega⟩
        case round =>
          obtain ⟨j, rfl, rfl, hg, hj2⟩ := hrel
          have hc : j = 0 ∨ j = 1 ∨ j = 2 := by omega
          rcases hc with rfl | rfl | rfl
          · go_wp2
            go_roundg 2
            case measure => omega
            case rel => exact ⟨1, rfl, rfl, rfl, by omega⟩
          · go_wp2
            go_roundg 1
            case measure => omega
            case rel => exact ⟨2, rfl, rfl, rfl, by omega⟩
          · go_wp2
            go_ret
            exact ⟨by rw [HE.out]; rfl, rfl⟩
    · have HE := Lib.hid (show orF x y z = y by unfold orF; rw [if_neg (by simp [hx]), if_pos hy])
      have dx : (x != 0) = false := by simp [hx]
      have dy : (y != 0) = true := by simpa using hy
      clear hx hy
      go_enter Tryz.func41, Tryz.ntmps41
      go_wp2
      go_loopg [8] 3 (fun g' v8 W => ∃ j : Nat, w = W ∧ v8 = .int .i64 j ∧ g' + j = 3 ∧ j ≤ 1)
      case atStart => exact ⟨0, rfl, rfl, rfl, by omega⟩
      case round =>
        obtain ⟨j, rfl, rfl, hg, hj2⟩ := hrel
        have hc : j = 0 ∨ j = 1 := by omega
        rcases hc with rfl | rfl
        · go_wp2
          go_roundg 2
          case measure => omega
          case rel => exact ⟨1, rfl, rfl, rfl, by omega⟩
        · go_wp2
          go_ret
          exact ⟨by rw [HE.out]; rfl, rfl⟩
  · have HE := Lib.hid (show orF x y z = x by unfold orF; rw [if_pos hx])
    have dx : (x != 0) = true := by simpa using hx
    clear hx
    go_enter Tryz.func41, Tryz.ntmps41
    go_wp2
    go_loopg [8] 3 (fun g' v8 W => ∃ j : Nat, w = W ∧ v8 = .int .i64 j ∧ g' + j = 3 ∧ j ≤ 0)
    case atStart => exact ⟨0, rfl, rfl, rfl, by omega⟩
    case round =>
      obtain ⟨j, rfl, rfl, hg, hj2⟩ := hrel
      have hc : j = 0 := by omega
      subst hc
      go_wp2
      go_ret
      exact ⟨by rw [HE.out]; rfl, rfl⟩
#print axioms or_any
end Go.Proofs.YtipoielcmaegaaaGreatDoor

namespace Go.Proofs.YtipoielcmaegaaaGreatDoor
open Go.RowKit

/-- A key's cells. -/
def keyL (k : KeyV) : List Value := .int .i64 k.t :: (k.c.map B ++ [.int .i64 k.i])
def keyC (k : KeyV) : Array Value := (keyL k).toArray
/-- A block that holds a key. -/
def KeyAt (w : World) (g : Nat) (k : KeyV) : Prop := k.c.length = 32 ∧ w.heap[g]? = some (.cells (keyC k) 35 (0, 0))

theorem keyL_length {k : KeyV} (h : k.c.length = 32) : (keyL k).length = 34 := by simp [keyL, h]

theorem KeyAt.time {w : World} {g : Nat} {k : KeyV} (h : KeyAt w g k) : w.cell? ⟨g, 0, none⟩ = some (.int .i64 k.t) := by
  rw [cell_of_row w g 0 (keyC k) 35 (0, 0) h.2]; simp [keyC, keyL]
theorem KeyAt.index {w : World} {g : Nat} {k : KeyV} (h : KeyAt w g k) : w.cell? ⟨g, 33, none⟩ = some (.int .i64 k.i) := by
  rw [cell_of_row w g 33 (keyC k) 35 (0, 0) h.2]
  have := h.1
  simp [keyC, keyL, this]
theorem KeyAt.change {w : World} {g : Nat} {k : KeyV} (h : KeyAt w g k) : w.rangeAt g 1 (k.c.map B) := fun j v hj => by
  rw [cell_of_row w g (1 + j) (keyC k) 35 (0, 0) h.2]
  have hl : j < (k.c.map B).length := (List.getElem?_eq_some_iff.1 hj).1
  rw [show 1 + j = j + 1 from by omega]
  simp only [keyC, keyL, List.getElem?_toArray, List.getElem?_cons_succ]
  rw [List.getElem?_append_left hl]
  exact hj

theorem KeyAt.lt {w : World} {g : Nat} {k : KeyV} (h : KeyAt w g k) : g < w.heap.size := by
  rcases Nat.lt_or_ge g w.heap.size with h' | h'
  · exact h'
  · have := h.2
    rw [Array.getElem?_eq_none h'] at this; cases this
theorem KeyAt.below {w w' : World} {g : Nat} {k : KeyV} (h : KeyAt w g k) (hb : Below w.heap.size w w') : KeyAt w' g k := ⟨h.1, by rw [hb.block g h.lt]; exact h.2⟩

theorem two_keys (w : World) (a b : KeyV) (ha : a.c.length = 32) (hb : b.c.length = 32) :
    KeyAt ((w.alloc (.cells (keyC a) 35)).alloc (.cells (keyC b) 35)) w.heap.size a ∧
    KeyAt ((w.alloc (.cells (keyC a) 35)).alloc (.cells (keyC b) 35)) (w.heap.size + 1) b :=
  ⟨⟨ha, by rw [heap_alloc_old (h := by simp), heap_alloc_new]⟩,
   ⟨hb, by have := heap_alloc_new (w.alloc (.cells (keyC a) 35)) (.cells (keyC b) 35); simpa using this⟩⟩

def KeyIs (a b : KeyV) (w : World) (e : Ending) (w' : World) : Prop := e = .returned (.int .i64 (keyF a b)) ∧ Below w.heap.size w w'

theorem keyF_or (a b : KeyV) : keyF a b = orF (intF a.t b.t) (cmpF a.c b.c) (intF a.i b.i) := by
  unfold keyF orF intF
  repeat' split
  all_goals first | rfl | omega | simp_all

/-- The change's 32 bytes, loaded off a key. -/
theorem load_change {w : World} {ops : Array Oper} {rest : List Oper} {o : Oper} {a : Act} {Q : Exit → Act → World → Prop} (hgd : o.guard = none) (x : Operand) (ho : o.op = .load 33 x)
    (g : Nat) (k : KeyV) (hx : a.eval x = .pointer (some ⟨g, 1, none⟩)) (hg : KeyAt w g k)
    (h : wpList Tryz.prog ops Q rest (a.put o.dst (.agg (idCells k.c))) w) : wpList Tryz.prog ops Q (o :: rest) a w :=
  wpList_load_mid hgd _ x ho g 1 hx (k.c.map B) _ hg.change Tryz.underlying33 rfl (by rw [List.length_map, hg.1]; exact info_id) h

set_option maxRecDepth 100000 in
set_option maxHeartbeats 1000000 in
theorem refKeys_any (a b : KeyV) (w : World) (ha : a.c.length = 32) (hb : b.c.length = 32) :
    Calls Tryz.prog 23 #[.agg (keyC a), .agg (keyC b)] w (KeyIs a b w) := by
  obtain ⟨hA, hB⟩ := two_keys w a b ha hb
  have hbel : Below w.heap.size w ((w.alloc (.cells (keyC a) 35)).alloc (.cells (keyC b) 35)) := ((Below.refl _ _).alloc (Nat.le_refl _) _).alloc (by simp) _
  have ta := hA.time
  have tb := hB.time
  have HA := Lib.hid hA
  have HB := Lib.hid hB
  have HC := fun W => Lib.hid (refCompare_any a.c b.c W ha hb)
  have HBL := Lib.hid hbel
  have HK := Lib.hid (keyF_or a b)
  obtain ⟨at_, hat⟩ : ∃ x, x = a.t := ⟨_, rfl⟩
  obtain ⟨bt, hbt⟩ : ∃ x, x = b.t := ⟨_, rfl⟩
  rw [← hat] at ta
  rw [← hbt] at tb
  have HAT := Lib.hid hat
  have HBT := Lib.hid hbt
  clear hA hB ha hb hbel hat hbt
  by_cases h1 : at_ < bt
  · have HE := Lib.hid (show keyF a b = -1 by rw [HK.out]; unfold orF intF; rw [← HAT.out, ← HBT.out, if_pos h1]; rfl)
    go_enter Tryz.func23, Tryz.ntmps23
    go_wp2
    go_ret
    exact ⟨by rw [HE.out]; rfl, HBL.out⟩
  · by_cases h2 : bt < at_
    · have HE := Lib.hid (show keyF a b = 1 by rw [HK.out]; unfold orF intF; rw [← HAT.out, ← HBT.out, if_neg h1, if_pos h2]; rfl)
      have d1 : decide (at_ < bt) = false := decide_eq_false h1
      clear h1
      go_enter Tryz.func23, Tryz.ntmps23
      go_wp2
      go_ret
      exact ⟨by rw [HE.out]; rfl, HBL.out⟩
    · have d1 : decide (at_ < bt) = false := decide_eq_false h1
      have d2 : decide (bt < at_) = false := decide_eq_false h2
      have HE0 := Lib.hid (show keyF a b = orF 0 (cmpF a.c b.c) (intF a.i b.i) by rw [HK.out]; unfold intF; rw [← HAT.out, ← HBT.out, if_neg h1, if_neg h2])
      clear h1 h2
      obtain ⟨c0, hc0⟩ : ∃ x, x = cmpF a.c b.c := ⟨_, rfl⟩
      have HC0 := Lib.hid hc0
      by_cases h3 : c0 = 0
      · have d3 : (c0 != 0) = false := by simp [h3]
        have HE3 := Lib.hid (show keyF a b = intF a.i b.i by rw [HE0.out, ← hc0, h3]; rfl)
        clear h3 hc0
        obtain ⟨ai, hai⟩ : ∃ x, x = a.i := ⟨_, rfl⟩
        obtain ⟨bi, hbi⟩ : ∃ x, x = b.i := ⟨_, rfl⟩
        have HAI := Lib.hid hai
        have HBI := Lib.hid hbi
        clear hai hbi
        by_cases h4 : ai < bi
        · have HE := Lib.hid (show keyF a b = -1 by rw [HE3.out]; unfold intF; rw [← HAI.out, ← HBI.out, if_pos h4])
          go_enter Tryz.func23, Tryz.ntmps23
          go_wp2_with (first
            | ((with_reducible show wpList _ _ _ (⟨some 17, _, _, _, _, _⟩ :: _) _ _); go_must (refine load_change rfl _ rfl _ a rfl HA.out ?_))
            | ((with_reducible show wpList _ _ _ (⟨some 19, _, _, _, _, _⟩ :: _) _ _); go_must (refine load_change rfl _ rfl _ b rfl HB.out ?_))
            | (go_at_call 38; go_must (refine (HC _).out.mono ?_); rintro e w1 ⟨he, hb1⟩; rw [← HC0.out] at he; subst he; have ia := (HA.out.below hb1).index; have ib := (HB.out.below hb1).index; rw [← HAI.out] at ia; rw [← HBI.out] at ib))
          go_ret
          exact ⟨by rw [HE.out]; rfl, HBL.out.trans (hb1.mono HBL.out.size)⟩
        · by_cases h5 : bi < ai
          · have HE := Lib.hid (show keyF a b = 1 by rw [HE3.out]; unfold intF; rw [← HAI.out, ← HBI.out, if_neg h4, if_pos h5])
            have d4 : decide (ai < bi) = false := decide_eq_false h4
            clear h4
            go_enter Tryz.func23, Tryz.ntmps23
            go_wp2_with (first
              | ((with_reducible show wpList _ _ _ (⟨some 17, _, _, _, _, _⟩ :: _) _ _); go_must (refine load_change rfl _ rfl _ a rfl HA.out ?_))
              | ((with_reducible show wpList _ _ _ (⟨some 19, _, _, _, _, _⟩ :: _) _ _); go_must (refine load_change rfl _ rfl _ b rfl HB.out ?_))
              | (go_at_call 38; go_must (refine (HC _).out.mono ?_); rintro e w1 ⟨he, hb1⟩; rw [← HC0.out] at he; subst he; have ia := (HA.out.below hb1).index; have ib := (HB.out.below hb1).index; rw [← HAI.out] at ia; rw [← HBI.out] at ib))
            go_ret
            exact ⟨by rw [HE.out]; rfl, HBL.out.trans (hb1.mono HBL.out.size)⟩
          · have HE := Lib.hid (show keyF a b = 0 by rw [HE3.out]; unfold intF; rw [← HAI.out, ← HBI.out, if_neg h4, if_neg h5])
            have d4 : decide (ai < bi) = false := decide_eq_false h4
            have d5 : decide (bi < ai) = false := decide_eq_false h5
            clear h4 h5
            go_enter Tryz.func23, Tryz.ntmps23
            go_wp2_with (first
              | ((with_reducible show wpList _ _ _ (⟨some 17, _, _, _, _, _⟩ :: _) _ _); go_must (refine load_change rfl _ rfl _ a rfl HA.out ?_))
              | ((with_reducible show wpList _ _ _ (⟨some 19, _, _, _, _, _⟩ :: _) _ _); go_must (refine load_change rfl _ rfl _ b rfl HB.out ?_))
              | (go_at_call 38; go_must (refine (HC _).out.mono ?_); rintro e w1 ⟨he, hb1⟩; rw [← HC0.out] at he; subst he; have ia := (HA.out.below hb1).index; have ib := (HB.out.below hb1).index; rw [← HAI.out] at ia; rw [← HBI.out] at ib))
            go_ret
            exact ⟨by rw [HE.out]; rfl, HBL.out.trans (hb1.mono HBL.out.size)⟩
      · have d3 : (c0 != 0) = true := by simpa using h3
        have HE := Lib.hid (show keyF a b = c0 by rw [HE0.out, ← hc0]; unfold orF; rw [if_neg (by simp), if_pos h3])
        clear h3 hc0
        go_enter Tryz.func23, Tryz.ntmps23
        go_wp2_with (first
          | ((with_reducible show wpList _ _ _ (⟨some 17, _, _, _, _, _⟩ :: _) _ _); go_must (refine load_change rfl _ rfl _ a rfl HA.out ?_))
          | ((with_reducible show wpList _ _ _ (⟨some 19, _, _, _, _, _⟩ :: _) _ _); go_must (refine load_change rfl _ rfl _ b rfl HB.out ?_))
          | (go_at_call 38; go_must (refine (HC _).out.mono ?_); rintro e w1 ⟨he, hb1⟩; rw [← HC0.out] at he; subst he))
        go_ret
        exact ⟨by rw [HE.out]; rfl, HBL.out.trans (hb1.mono HBL.out.size)⟩
#print axioms refKeys_any
end Go.Proofs.YtipoielcmaegaaaGreatDoor

namespace Go.Proofs.YtipoielcmaegaaaGreatDoor
open Go.RowKit

theorem cells3 (w : World) (x y z : Int) : (w.alloc (.cells #[.int .i64 x, .int .i64 y, .int .i64 z] 3)).cell? ⟨w.heap.size, 0, none⟩ = some (.int .i64 x) ∧ (w.alloc (.cells #[.int .i64 x, .int .i64 y, .int .i64 z] 3)).cell? ⟨w.heap.size, 1, none⟩ = some (.int .i64 y) ∧ (w.alloc (.cells #[.int .i64 x, .int .i64 y, .int .i64 z] 3)).cell? ⟨w.heap.size, 2, none⟩ = some (.int .i64 z) :=
  ⟨by simp, by simp, by simp⟩

set_option maxRecDepth 100000 in
set_option maxHeartbeats 2000000 in
theorem keys_any (a b : KeyV) (w : World) (ha : a.c.length = 32) (hb : b.c.length = 32) :
    Calls Tryz.prog 26 #[.agg (keyC a), .agg (keyC b)] w (KeyIs a b w) := by
  obtain ⟨hA, hB⟩ := two_keys w a b ha hb
  have hbel : Below w.heap.size w ((w.alloc (.cells (keyC a) 35)).alloc (.cells (keyC b) 35)) := ((Below.refl _ _).alloc (Nat.le_refl _) _).alloc (by simp) _
  have HA := Lib.hid hA
  have HB := Lib.hid hB
  have HAC := Lib.hid ha
  have HBC := Lib.hid hb
  have HBL := Lib.hid hbel
  have HK := Lib.hid (keyF_or a b)
  have hu := Tryz.underlying33
  have hi1 : (Tryz.prog.info? 33).map (·.size) = some (a.c.map B).length := by rw [List.length_map, ha]; exact info_id
  have hi2 : (Tryz.prog.info? 33).map (·.size) = some (b.c.map B).length := by rw [List.length_map, hb]; exact info_id
  clear hA hB ha hb hbel
  go_enter Tryz.func26, Tryz.ntmps26
  go_wp2
  generalize (w.alloc (.cells (keyC a) 35)).alloc (.cells (keyC b) 35) = W0 at HA HB HBL ⊢
  have hS0 : Below W0.heap.size W0 W0.drew := (Below.refl _ _).drew
  refine wp_region_held_drew (S := fun W => Below W0.heap.size W0 W) (by kernel_rfl) hS0 (fun hHeld => ?_)
  refine wpAnyH_take (i := 0) (oi := ⟨some 5, .fieldAddr 35 (.tmp 2) 0, _, _, _, _⟩) (v := (.pointer (some ⟨w.heap.size, 0, none⟩))) rfl (by kernel_rfl) (by kernel_rfl) (by kernel_rfl) (fun _ _ _ h => h) (Or.inl ⟨by rfl, fun W hW => by go_simp⟩) (by assumption) ?_
  simp only [Act.put, List.setIfInBounds_toArray, List.set_cons_zero, List.set_cons_succ]
  refine wpAnyH_take (i := 1) (oi := ⟨some 6, .load 3 (.tmp 5), _, _, _, _⟩) (v := (.int .i64 a.t)) rfl (by kernel_rfl) (by kernel_rfl) (by kernel_rfl) (fun _ _ _ h => h) (Or.inl ⟨by rfl, fun W hW => by have hcell := (HA.out.below hW).time; go_simp⟩) (by assumption) ?_
  simp only [Act.put, List.setIfInBounds_toArray, List.set_cons_zero, List.set_cons_succ]
  refine wpAnyH_take (i := 2) (oi := ⟨some 7, .fieldAddr 35 (.tmp 3) 0, _, _, _, _⟩) (v := (.pointer (some ⟨(w.heap.size + 1), 0, none⟩))) rfl (by kernel_rfl) (by kernel_rfl) (by kernel_rfl) (fun _ _ _ h => h) (Or.inl ⟨by rfl, fun W hW => by go_simp⟩) (by assumption) ?_
  simp only [Act.put, List.setIfInBounds_toArray, List.set_cons_zero, List.set_cons_succ]
  refine wpAnyH_take (i := 3) (oi := ⟨some 8, .load 3 (.tmp 7), _, _, _, _⟩) (v := (.int .i64 b.t)) rfl (by kernel_rfl) (by kernel_rfl) (by kernel_rfl) (fun _ _ _ h => h) (Or.inl ⟨by rfl, fun W hW => by have hcell := (HB.out.below hW).time; go_simp⟩) (by assumption) ?_
  simp only [Act.put, List.setIfInBounds_toArray, List.set_cons_zero, List.set_cons_succ]
  refine wpAnyH_take (i := 5) (oi := ⟨some 10, .fieldAddr 35 (.tmp 2) 1, _, _, _, _⟩) (v := (.pointer (some ⟨w.heap.size, 1, none⟩))) rfl (by kernel_rfl) (by kernel_rfl) (by kernel_rfl) (fun _ _ _ h => h) (Or.inl ⟨by rfl, fun W hW => by go_simp⟩) (by assumption) ?_
  simp only [Act.put, List.setIfInBounds_toArray, List.set_cons_zero, List.set_cons_succ]
  refine wpAnyH_take (i := 6) (oi := ⟨some 11, .load 33 (.tmp 10), _, _, _, _⟩) (v := _) rfl (by kernel_rfl) (by kernel_rfl) (by kernel_rfl) (fun _ _ _ h => h) (yieldsIf_load_mid (by rfl) _ _ rfl _ _ rfl _ _ (fun W hW => (HA.out.below hW).change) hu rfl hi1) (by assumption) ?_
  simp only [Act.put, List.setIfInBounds_toArray, List.set_cons_zero, List.set_cons_succ]
  refine wpAnyH_take (i := 7) (oi := ⟨some 12, .fieldAddr 35 (.tmp 3) 1, _, _, _, _⟩) (v := (.pointer (some ⟨(w.heap.size + 1), 1, none⟩))) rfl (by kernel_rfl) (by kernel_rfl) (by kernel_rfl) (fun _ _ _ h => h) (Or.inl ⟨by rfl, fun W hW => by go_simp⟩) (by assumption) ?_
  simp only [Act.put, List.setIfInBounds_toArray, List.set_cons_zero, List.set_cons_succ]
  refine wpAnyH_take (i := 8) (oi := ⟨some 13, .load 33 (.tmp 12), _, _, _, _⟩) (v := _) rfl (by kernel_rfl) (by kernel_rfl) (by kernel_rfl) (fun _ _ _ h => h) (yieldsIf_load_mid (by rfl) _ _ rfl _ _ rfl _ _ (fun W hW => (HB.out.below hW).change) hu rfl hi2) (by assumption) ?_
  simp only [Act.put, List.setIfInBounds_toArray, List.set_cons_zero, List.set_cons_succ]
  refine wpAnyH_take (i := 10) (oi := ⟨some 15, .fieldAddr 35 (.tmp 2) 2, _, _, _, _⟩) (v := (.pointer (some ⟨w.heap.size, 33, none⟩))) rfl (by kernel_rfl) (by kernel_rfl) (by kernel_rfl) (fun _ _ _ h => h) (Or.inl ⟨by rfl, fun W hW => by go_simp⟩) (by assumption) ?_
  simp only [Act.put, List.setIfInBounds_toArray, List.set_cons_zero, List.set_cons_succ]
  refine wpAnyH_take (i := 11) (oi := ⟨some 16, .load 3 (.tmp 15), _, _, _, _⟩) (v := (.int .i64 a.i)) rfl (by kernel_rfl) (by kernel_rfl) (by kernel_rfl) (fun _ _ _ h => h) (Or.inl ⟨by rfl, fun W hW => by have hcell := (HA.out.below hW).index; go_simp⟩) (by assumption) ?_
  simp only [Act.put, List.setIfInBounds_toArray, List.set_cons_zero, List.set_cons_succ]
  refine wpAnyH_take (i := 12) (oi := ⟨some 17, .fieldAddr 35 (.tmp 3) 2, _, _, _, _⟩) (v := (.pointer (some ⟨(w.heap.size + 1), 33, none⟩))) rfl (by kernel_rfl) (by kernel_rfl) (by kernel_rfl) (fun _ _ _ h => h) (Or.inl ⟨by rfl, fun W hW => by go_simp⟩) (by assumption) ?_
  simp only [Act.put, List.setIfInBounds_toArray, List.set_cons_zero, List.set_cons_succ]
  refine wpAnyH_take (i := 13) (oi := ⟨some 18, .load 3 (.tmp 17), _, _, _, _⟩) (v := (.int .i64 b.i)) rfl (by kernel_rfl) (by kernel_rfl) (by kernel_rfl) (fun _ _ _ h => h) (Or.inl ⟨by rfl, fun W hW => by have hcell := (HB.out.below hW).index; go_simp⟩) (by assumption) ?_
  simp only [Act.put, List.setIfInBounds_toArray, List.set_cons_zero, List.set_cons_succ]
  refine wpAnyH_ready (rs := [4]) (by kernel_rfl) (by simp) ?_
  refine AllReadyH.cons (o := ⟨some 9, .call { callee := .value (.func 42), args := #[.tmp 6, .tmp 8], argTypes := #[3, 3] }, _, _, _, _⟩) rfl (fun K hK => ?_) AllReadyH.nil
  go_simp
  go_wp2_with (go_at_call 42; go_must (refine (cmpInt_any _ _ _).mono ?_); rintro e w1 ⟨rfl, rfl⟩)
  refine hK.out _ _ hS0 (fun hHeld => ?_)
  clear hK K
  refine wpAnyH_ready (rs := [9]) (by kernel_rfl) (by simp) ?_
  refine AllReadyH.cons (o := ⟨some 14, .call { callee := .value (.func 43), args := #[.tmp 11, .tmp 13], argTypes := #[33, 33] }, _, _, _, _⟩) rfl (fun K hK => ?_) AllReadyH.nil
  go_simp
  go_wp2_with (go_at_call 43; go_must (refine (compare_any a.c b.c _ HAC.out HBC.out).mono ?_); rintro e w2 ⟨rfl, hb2⟩; have hS2 := hS0.trans (hb2.mono hS0.size))
  refine hK.out _ _ hS2 (fun hHeld => ?_)
  clear hK K
  refine wpAnyH_ready (rs := [14]) (by kernel_rfl) (by simp) ?_
  refine AllReadyH.cons (o := ⟨some 19, .call { callee := .value (.func 42), args := #[.tmp 16, .tmp 18], argTypes := #[3, 3] }, _, _, _, _⟩) rfl (fun K hK => ?_) AllReadyH.nil
  go_simp
  go_wp2_with (go_at_call 42; go_must (refine (cmpInt_any _ _ _).mono ?_); rintro e w1 ⟨rfl, rfl⟩)
  refine hK.out _ _ hS2 (fun hHeld => ?_)
  clear hK K
  refine wpAnyH_ready (rs := [15]) (by kernel_rfl) (by simp) ?_
  refine AllReadyH.cons (o := ⟨some 20, .buildSlice 57 3 #[(0, .tmp 9), (1, .tmp 14), (2, .tmp 19)], _, _, _, _⟩) rfl (fun K hK => ?_) AllReadyH.nil
  go_simp
  have hS3 := hS2.alloc hS2.size (.cells #[.int .i64 (intF a.t b.t), .int .i64 (cmpF a.c b.c), .int .i64 (intF a.i b.i)] 3); have HC3 := Lib.hid (cells3 w2 (intF a.t b.t) (cmpF a.c b.c) (intF a.i b.i))
  refine hK.out _ _ hS3 (fun hHeld => ?_)
  clear hK K
  refine wpAnyH_ready (rs := [16]) (by kernel_rfl) (by simp) ?_
  refine AllReadyH.cons (o := ⟨some 21, .call { callee := .value (.func 41), args := #[.tmp 20], argTypes := #[57] }, _, _, _, _⟩) rfl (fun K hK => ?_) AllReadyH.nil
  go_simp
  go_wp2_with (go_at_call 41; go_must (refine (or_any _ _ _ _ _ HC3.out.1 HC3.out.2.1 HC3.out.2.2).mono ?_); rintro e w4 ⟨rfl, rfl⟩)
  refine hK.out _ _ hS3 (fun hHeld => ?_)
  clear hK K
  refine wpAnyH_take (i := 17) (oi := ⟨some 4, .assign (.tmp 21), _, _, _, _⟩) (v := (.int .i64 (orF (intF a.t b.t) (cmpF a.c b.c) (intF a.i b.i)))) rfl (by kernel_rfl) (by kernel_rfl) (by kernel_rfl) (fun _ _ _ h => h) (Or.inl ⟨by rfl, fun W hW => by go_simp⟩) (by assumption) ?_
  simp only [Act.put, List.setIfInBounds_toArray, List.set_cons_zero, List.set_cons_succ]
  refine wpAnyH_done (by kernel_rfl) ?_ _
  go_wp2
  go_ret
  exact ⟨by rw [HK.out]; rfl, HBL.out.trans (hS3.mono HBL.out.size)⟩
#print axioms keys_any
end Go.Proofs.YtipoielcmaegaaaGreatDoor
