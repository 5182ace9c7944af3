/-
  The walk of the document's Compare of ids.
-/
import Derived.Test.YtejooogfnnidcaaDoorOrdCmp
import Derived.Deep.LoopGhost
namespace Go.Proofs.YtejooogfnnidcaaDoor
open Go.RowKit

theorem two_boxes (w : World) (l k : List UInt8) (hl : l.length = 32) (hk : k.length = 32) :
    IdAt ((w.alloc (.cells (idCells l) 24)).alloc (.cells (idCells k) 24)) w.heap.size l ∧
    IdAt ((w.alloc (.cells (idCells l) 24)).alloc (.cells (idCells k) 24)) (w.heap.size + 1) k :=
  ⟨⟨hl, by rw [heap_alloc_old (h := by simp), heap_alloc_new]⟩,
   ⟨hk, by have := heap_alloc_new (w.alloc (.cells (idCells l) 24)) (.cells (idCells k) 24); simpa using this⟩⟩

/-- As far as the two are alike. -/
def SameTo (l k : List UInt8) (j : Nat) : Prop := l.take j = k.take j

theorem SameTo.lt {l k : List UInt8} {j : Nat} (h : SameTo l k j) (hl : j < l.length) (hk : j < k.length) (hc : (l.getD j 0).toNat < (k.getD j 0).toNat) : cmpF l k = -1 := by
  rw [cmpF_at j l k h hl hk, if_pos hc]
theorem SameTo.gt {l k : List UInt8} {j : Nat} (h : SameTo l k j) (hl : j < l.length) (hk : j < k.length) (hc : (k.getD j 0).toNat < (l.getD j 0).toNat) : cmpF l k = 1 := by
  rw [cmpF_at j l k h hl hk, if_neg (by omega), if_pos hc]
theorem SameTo.next {l k : List UInt8} {j : Nat} (h : SameTo l k j) (hl : j < l.length) (hk : j < k.length) (h1 : ¬ (l.getD j 0).toNat < (k.getD j 0).toNat) (h2 : ¬ (k.getD j 0).toNat < (l.getD j 0).toNat) : SameTo l k (j + 1) := by
  unfold SameTo at h ⊢
  rw [List.take_succ_eq_append_getElem hl, List.take_succ_eq_append_getElem hk, h]
  have e : (l.getD j 0) = (k.getD j 0) := UInt8.toNat_inj.1 (by omega)
  simp [hl, hk] at e
  rw [e]
theorem SameTo.all {l k : List UInt8} (h : SameTo l k 32) (hl : l.length = 32) (hk : k.length = 32) : cmpF l k = 0 := by
  unfold SameTo at h
  rw [List.take_of_length_le (by omega), List.take_of_length_le (by omega)] at h
  rw [h, cmpF_self]

set_option maxRecDepth 100000 in
set_option maxHeartbeats 1000000 in
theorem refCompare_any (l k : List UInt8) (w : World) (hl : l.length = 32) (hk : k.length = 32) :
    Calls Tryd.prog 73 #[.agg (idCells l), .agg (idCells k)] w (CmpIs l k w) := by
  obtain ⟨hA, hB⟩ := two_boxes w l k hl hk
  have HA := Lib.hid hA
  have HB := Lib.hid hB
  have HL := Lib.hid hl
  have HK := Lib.hid hk
  have HI := Lib.hid (show SameTo l k 0 from rfl)
  clear hA hB hl hk
  go_enter Tryd.func73, Tryd.ntmps73
  go_wp2
  go_loopg [5] 32 (fun g v5 W => ∃ j : Nat, Below ((w.alloc (.cells (idCells l) 24)).alloc (.cells (idCells k) 24)).heap.size ((w.alloc (.cells (idCells l) 24)).alloc (.cells (idCells k) 24)) W ∧ v5 = .int .i64 j ∧ g + j = 32 ∧ Hid (SameTo l k j))
  case atStart => exact ⟨0, Below.refl _ _, rfl, rfl, HI⟩
  case round =>
    obtain ⟨j, hbw, rfl, hg, hinv⟩ := hrel
    have HG := Lib.hid hg
    have hb2 := ((((Below.refl w.heap.size w).alloc (Nat.le_refl _) (.cells (idCells l) 24)).alloc (by simp) (.cells (idCells k) 24)).trans (hbw.mono (by simp; omega)))
    by_cases hj : (j : Int) < 32
    · have ha := (HA.out.below hbw).cell j (by omega)
      have hb := (HB.out.below hbw).cell j (by omega)
      have hj' : j < 32 := by omega
      obtain ⟨x, hx⟩ : ∃ x : Int, x = ((l.getD j 0).toNat : Int) := ⟨_, rfl⟩
      obtain ⟨y, hy⟩ : ∃ y : Int, y = ((k.getD j 0).toNat : Int) := ⟨_, rfl⟩
      unfold B at ha hb
      rw [← hx] at ha
      rw [← hy] at hb
      have HX := Lib.hid hx
      have HY := Lib.hid hy
      have HJ := Lib.hid hj'
      have h0 : (0 : Int) ≤ (j : Int) := by omega
      clear hx hy hg hj'
      by_cases h1 : x < y
      · have HE := Lib.hid (hinv.out.lt (by rw [HL.out]; exact HJ.out) (by rw [HK.out]; exact HJ.out) (by have := HX.out; have := HY.out; omega))
        go_wp2
        go_quiet (fail)
        go_wp2
        go_ret
        exact ⟨by rw [HE.out]; rfl, below_drewN hb2 _⟩
      · by_cases h2 : y < x
        · have HE := Lib.hid (hinv.out.gt (by rw [HL.out]; exact HJ.out) (by rw [HK.out]; exact HJ.out) (by have := HX.out; have := HY.out; omega))
          have d1 : decide (x < y) = false := decide_eq_false h1
          clear h1
          go_wp2
          go_quiet (fail)
          go_wp2
          go_quiet (fail)
          go_wp2
          go_ret
          exact ⟨by rw [HE.out]; rfl, below_drewN (below_drewN hb2 _) _⟩
        · have HN := Lib.hid (hinv.out.next (by rw [HL.out]; exact HJ.out) (by rw [HK.out]; exact HJ.out) (by have := HX.out; have := HY.out; omega) (by have := HX.out; have := HY.out; omega))
          have d1 : decide (x < y) = false := decide_eq_false h1
          have d2 : decide (y < x) = false := decide_eq_false h2
          clear h1 h2
          go_wp2
          go_quiet (fail)
          go_wp2
          go_quiet (fail)
          go_wp2
          go_roundg (gk - 1)
          case measure => have := HG.out; omega
          case rel => exact ⟨j + 1, below_drewN hbw _, by go_num, by have := HG.out; omega, HN⟩
    · have HE := Lib.hid ((show SameTo l k 32 by have := hinv.out; have hj32 : j = 32 := (by omega); rw [hj32] at this; exact this).all HL.out HK.out)
      clear hg
      go_wp2
      go_ret
      exact ⟨by rw [HE.out]; rfl, hb2⟩
#print axioms refCompare_any
end Go.Proofs.YtejooogfnnidcaaDoor
