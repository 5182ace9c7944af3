/-
  The walks of the document's In and Copy, and of IsSet, the program's and the document's.
-/
import Derived.Test.YtejooogfnnidcaaDoorIdStep
import Derived.Test.YtejooogfnnidcaaDoorOrdRefCmp
import Derived.IntWalk
namespace Go.Proofs.YtejooogfnnidcaaDoor
open Go.RowKit

theorem ownI_empty (w : World) : OwnI (w.alloc (.cells #[] 24)) w.heap.size (.slice (some ⟨w.heap.size, 0, none⟩) 0 0) [] :=
  ⟨World.ownsRow_lit w #[] 0 (Nat.le_refl _) (by unfold maxLen; omega) rfl, (fun _ h => by cases h)⟩

/-- As far as it is not there. -/
def NotTo (l : List (List UInt8)) (x : List UInt8) (j : Nat) : Prop := ∀ i, i < j → l.getD i [] ≠ x
theorem NotTo.next {l : List (List UInt8)} {x : List UInt8} {j : Nat} (h : NotTo l x j) (hn : l.getD j [] ≠ x) : NotTo l x (j + 1) := fun i hi => by
  rcases Nat.lt_or_ge i j with h1 | h1
  · exact h i h1
  · obtain rfl : i = j := by omega
    exact hn
theorem NotTo.end {l : List (List UInt8)} {x : List UInt8} (h : NotTo l x l.length) : x ∉ l := fun hx => by
  obtain ⟨i, hi, rfl⟩ := List.getElem_of_mem hx
  exact h i hi (by simp [hi])
theorem mem_of_getD {l : List (List UInt8)} {x : List UInt8} {j : Nat} (hj : j < l.length) (h : l.getD j [] = x) : x ∈ l := by
  rw [← h]
  have : l.getD j [] = l[j] := by simp [hj]
  rw [this]
  exact List.getElem_mem hj

theorem idAt_new (w : World) (x : List UInt8) (hx : x.length = 32) : IdAt (w.alloc (.cells (idCells x) 24)) w.heap.size x := ⟨hx, heap_alloc_new w _⟩

set_option maxRecDepth 100000 in
set_option maxHeartbeats 1000000 in
theorem in_any (a : Option Addr) (n c : Nat) (l : List (List UInt8)) (x : List UInt8) (w : World) (ha : IdsAt w a n c l) (hx : x.length = 32) (hn : n ≤ 1000000000000) :
    Calls Tryd.prog 47 #[.slice a n c, .agg (idCells x)] w fun e w' => e = .returned (.bool (decide (x ∈ l))) ∧ Below w.heap.size w w' := by
  have hbel : Below w.heap.size w (w.alloc (.cells (idCells x) 24)) := (Below.refl _ _).alloc (Nat.le_refl _) _
  have HA := Lib.hid (ha.below hbel)
  have HLA := Lib.hid ha.1
  have HXI := Lib.hid (idAt_new w x hx)
  have HXL := Lib.hid hx
  have HB := Lib.hid hbel
  have HI := Lib.hid (show NotTo l x 0 from fun i hi => by omega)
  have hnI : (n : Int) ≤ 1000000000000 := by omega
  clear ha hx hbel hn
  go_enter Tryd.func47, Tryd.ntmps47
  go_wp2
  generalize w.alloc (.cells (idCells x) 24) = W0 at HA HXI HB ⊢
  go_loopg [5] n (fun g v5 W => ∃ j : Nat, Below W0.heap.size W0 W ∧ v5 = .int .i64 j ∧ g + j = n ∧ Hid (NotTo l x j))
  case atStart => exact ⟨0, Below.refl _ _, rfl, rfl, HI⟩
  case round =>
    obtain ⟨j, hbw, rfl, hg, hinv⟩ := hrel
    have HG := Lib.hid hg
    have hj0 : (0 : Int) ≤ (j : Int) := by omega
    have hjI : (j : Int) ≤ (n : Int) := by omega
    have hbw' := HB.out.trans (hbw.mono HB.out.size)
    by_cases hj : (j : Int) < (n : Int)
    · obtain ⟨ba, oa, rfl⟩ := HA.out.some_ (by omega)
      have HCA := Lib.hid ((HA.out.below hbw.drew).at_ j (by omega))
      have HCX := Lib.hid (HXI.out.below hbw.drew).range
      have HX := Lib.hid (getD_32 HA.out.2.2.2.1 (i := j) (by rw [HLA.out]; omega))
      have hbd := hbw.drew
      have hbd' := hbw'.drew
      clear hg
      go_wp2
      refine wp_region_still_lit (by kernel_rfl) (by kernel_rfl) ?_
      still_step
      still_step
      still_step
      refine still_w (by rfl) (exec_loadId _ rfl _ _ _ HX.out rfl HCA.out) ?_
      simp only [Act.put, List.setIfInBounds_toArray, List.set_cons_zero, List.set_cons_succ]
      refine still_w (by rfl) (exec_loadId _ rfl _ _ _ HXL.out rfl HCX.out) ?_
      simp only [Act.put, List.setIfInBounds_toArray, List.set_cons_zero, List.set_cons_succ]
      refine still_w (by rfl) (exec_eqlId _ _ _ rfl _ _ HX.out HXL.out rfl rfl) ?_
      simp only [Act.put, List.setIfInBounds_toArray, List.set_cons_zero, List.set_cons_succ]
      refine wpStill_nil ?_
      change Exit.then _ _ _ _ wr.drew
      generalize wr.drew = w2 at hbd hbd' ⊢
      by_cases he : l.getD j [] = x
      · have HN := Lib.hid (mem_of_getD (by rw [HLA.out]; omega) he)
        rw [decide_eq_true he]
        clear he
        go_wp2
        go_ret
        exact ⟨boolR (decide_eq_true HN.out).symm, hbd'⟩
      · have HN := Lib.hid (hinv.out.next he)
        rw [decide_eq_false he]
        clear he
        go_wp2
        go_roundg (gk - 1)
        case measure => have := HG.out; omega
        case rel => exact ⟨j + 1, hbd, by go_num, by have := HG.out; omega, HN⟩
    · have HE := Lib.hid (show x ∉ l from NotTo.end (by have h1 := hinv.out; rw [HLA.out]; rw [show j = n from by omega] at h1; exact h1))
      clear hg
      go_wp2
      go_ret
      exact ⟨boolR (decide_eq_false HE.out).symm, hbw'⟩
#print axioms in_any

/-! ### IsSet -/
/-- As far as each stands ahead of the next. -/
def UpTo (l : List (List UInt8)) (j : Nat) : Prop := ∀ i, i + 1 < j → cmpF (l.getD i []) (l.getD (i + 1) []) < 0
theorem UpTo.next {l : List (List UInt8)} {j : Nat} (h : UpTo l j) (hc : cmpF (l.getD (j - 1) []) (l.getD j []) < 0) : UpTo l (j + 1) := fun i hi => by
  rcases Nat.lt_or_ge (i + 1) j with h1 | h1
  · exact h i h1
  · obtain rfl : i = j - 1 := by omega
    rw [show j - 1 + 1 = j from by omega]
    exact hc
/-- Is it a set? -/
def isSetF (l : List (List UInt8)) : Bool := decide (∀ i, i < l.length - 1 → cmpF (l.getD i []) (l.getD (i + 1) []) < 0)
theorem isSetF_iff (l : List (List UInt8)) : isSetF l = true ↔ SetF l := by
  unfold isSetF
  rw [decide_eq_true_iff, setF_chain]
  constructor
  · intro h i hi; exact h i (by omega)
  · intro h i hi; exact h i (by omega)
theorem UpTo.end {l : List (List UInt8)} (h : UpTo l l.length) : isSetF l = true := by
  rw [isSetF_iff, setF_chain]
  exact fun i hi => h i hi
theorem isSetF_no {l : List (List UInt8)} {j : Nat} (h1 : 1 ≤ j) (hj : j < l.length) (hc : 0 ≤ cmpF (l.getD (j - 1) []) (l.getD j [])) : isSetF l = false := by
  rw [Bool.eq_false_iff]
  intro h
  rw [isSetF_iff, setF_chain] at h
  have := h (j - 1) (by omega)
  rw [show j - 1 + 1 = j from by omega] at this
  omega

theorem cmp_is (l k : List UInt8) (z : Int) (w : World) (hl : l.length = 32) (hk : k.length = 32) (h : z = cmpF l k) : Calls Tryd.prog 60 #[.agg (idCells l), .agg (idCells k)] w fun e w' => e = .returned (.int .i64 z) ∧ Below w.heap.size w w' := by
  subst h; exact compare_any l k w hl hk
theorem refCmp_is (l k : List UInt8) (z : Int) (w : World) (hl : l.length = 32) (hk : k.length = 32) (h : z = cmpF l k) : Calls Tryd.prog 73 #[.agg (idCells l), .agg (idCells k)] w fun e w' => e = .returned (.int .i64 z) ∧ Below w.heap.size w w' := by
  subst h; exact refCompare_any l k w hl hk

end Go.Proofs.YtejooogfnnidcaaDoor
