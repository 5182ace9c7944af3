/-
  The walks of the document's In and Copy, and of IsSet, the program's and the document's.
-/
import Derived.Test.YtglgjhmcdkooiaaIdStep
import Derived.Test.YtglgjhmcdkooiaaOrdRefCmp
import Derived.IntWalk
namespace Go.Proofs.Ytglgjhmcdkooiaa
open Go.RowKit

theorem ownI_empty (w : World) : OwnI (w.alloc (.cells #[] 31)) w.heap.size (.slice (some ⟨w.heap.size, 0, none⟩) 0 0) [] :=
  ⟨World.ownsRow_lit w #[] 0 (Nat.le_refl _) (by unfold maxLen; omega) rfl, (fun _ h => by cases h)⟩

/-- As far as it is not there. -/
def NotTo (l : List (List UInt8)) (x : List UInt8) (j : Nat) : Prop := ∀ i, i < j → l.getD i [] ≠ x
theorem NotTo.next {l : List (List UInt8)} {x : List UInt8} {j : Nat} (h : NotTo l x j) (hn : l.getD j [] ≠ x) : NotTo l x (j + 1) := fun i hi => by
  rcases Nat.lt_or_ge i j with h1 | h1
  · exact h i h1
  · obtain rfl : i = j := by omega
    exact hn
theorem NotTo.end {l : List (List UInt8)} {x : List UInt8} (h : NotTo l x l.length) : x ∉ l := fun hx => by
  obtain ⟨i, hi, rfl⟩ := List.getElem_of_mem hx
  exact h i hi (by simp [hi])
theorem mem_of_getD {l : List (List UInt8)} {x : List UInt8} {j : Nat} (hj : j < l.length) (h : l.getD j [] = x) : x ∈ l := by
  rw [← h]
  have : l.getD j [] = l[j] := by simp [hj]
  rw [this]
  exact List.getElem_mem hj

theorem idAt_new (w : World) (x : List UInt8) (hx : x.length = 32) : IdAt (w.alloc (.cells (idCells x) 31)) w.heap.size x := ⟨hx, heap_alloc_new w _⟩

/-! ### IsSet -/
/-- As far as each stands ahead of the next. -/
def UpTo (l : List (List UInt8)) (j : Nat) : Prop := ∀ i, i + 1 < j → cmpF (l.getD i []) (l.getD (i + 1) []) < 0
theorem UpTo.next {l : List (List UInt8)} {j : Nat} (h : UpTo l j) (hc : cmpF (l.getD (j - 1) []) (l.getD j []) < 0) : UpTo l (j + 1) := fun i hi => by
  rcases Nat.lt_or_ge (i + 1) j with h1 | h1
  · exact h i h1
  · obtain rfl : i = j - 1 := by omega
    rw [show j - 1 + 1 = j from by omega]
    exact hc
/-- Is it a set? -/
def isSetF (l : List (List UInt8)) : Bool := decide (∀ i, i < l.length - 1 → cmpF (l.getD i []) (l.getD (i + 1) []) < 0)
theorem isSetF_iff (l : List (List UInt8)) : isSetF l = true ↔ SetF l := by
  unfold isSetF
  rw [decide_eq_true_iff, setF_chain]
  constructor
  · intro h i hi; exact h i (by omega)
  · intro h i hi; exact h i (by omega)
theorem UpTo.end {l : List (List UInt8)} (h : UpTo l l.length) : isSetF l = true := by
  rw [isSetF_iff, setF_chain]
  exact fun i hi => h i hi
theorem isSetF_no {l : List (List UInt8)} {j : Nat} (h1 : 1 ≤ j) (hj : j < l.length) (hc : 0 ≤ cmpF (l.getD (j - 1) []) (l.getD j [])) : isSetF l = false := by
  rw [Bool.eq_false_iff]
  intro h
  rw [isSetF_iff, setF_chain] at h
  have := h (j - 1) (by omega)
  rw [show j - 1 + 1 = j from by omega] at this
  omega

theorem cmp_is (l k : List UInt8) (z : Int) (w : World) (hl : l.length = 32) (hk : k.length = 32) (h : z = cmpF l k) : Calls Try.prog 15 #[.agg (idCells l), .agg (idCells k)] w fun e w' => e = .returned (.int .i64 z) ∧ Below w.heap.size w w' := by
  subst h; exact compare_any l k w hl hk
theorem refCmp_is (l k : List UInt8) (z : Int) (w : World) (hl : l.length = 32) (hk : k.length = 32) (h : z = cmpF l k) : Calls Try.prog 20 #[.agg (idCells l), .agg (idCells k)] w fun e w' => e = .returned (.int .i64 z) ∧ Below w.heap.size w w' := by
  subst h; exact refCompare_any l k w hl hk

set_option maxRecDepth 100000 in
set_option maxHeartbeats 1000000 in
theorem isSet_any (a : Option Addr) (n c : Nat) (l : List (List UInt8)) (w : World) (ha : IdsAt w a n c l) (hn : n ≤ 1000000000000) :
    Calls Try.prog 21 #[.slice a n c] w fun e w' => e = .returned (.bool (isSetF l)) ∧ Below w.heap.size w w' := by
  have HA := Lib.hid ha
  have HLA := Lib.hid ha.1
  have HI := Lib.hid (show UpTo l 1 from fun i hi => by omega)
  have hnI : (n : Int) ≤ 1000000000000 := by omega
  clear ha hn
  go_enter Try.func21, Try.ntmps21
  go_wp2
  go_loopg [3] (n + 1) (fun g v3 W => ∃ j : Nat, Below w.heap.size w W ∧ v3 = .int .i64 j ∧ 1 ≤ j ∧ g + j = n + 1 + 1 ∧ Hid (UpTo l j) ∧ (j ≤ n ∨ j = 1))
  case atStart => exact ⟨1, Below.refl _ _, rfl, by omega, by omega, HI, .inr rfl⟩
  case round =>
    obtain ⟨j, hbw, rfl, hj1, hg, hinv, hor⟩ := hrel
    have HG := Lib.hid hg
    have HOR := Lib.hid hor
    have hj0 : (1 : Int) ≤ (j : Int) := by omega
    have hjI : (j : Int) ≤ (n : Int) + 1 := by omega
    by_cases hj : (j : Int) < (n : Int)
    · obtain ⟨ba, oa, rfl⟩ := HA.out.some_ (by omega)
      have HCA := Lib.hid ((HA.out.below hbw.drew).at_ (j - 1) (by omega))
      have HCB := Lib.hid ((HA.out.below hbw.drew).at_ j (by omega))
      have HX := Lib.hid (getD_32 HA.out.2.2.2.1 (i := j - 1) (by rw [HLA.out]; omega))
      have HY := Lib.hid (getD_32 HA.out.2.2.2.1 (i := j) (by rw [HLA.out]; omega))
      have hbd := hbw.drew
      have k1 : IntKind.i64.wrap ((j : Int) - 1) = (j : Int) - 1 := IntWalk.i64_in _ (by omega)
      have k2 : 0 ≤ (j : Int) - 1 := by omega
      have k3 : ((j : Int) - 1).toNat = j - 1 := by omega
      have k4 : (j : Int) - 1 < (n : Int) := by omega
      have k5 : j - 1 < n := by omega
      have HJ1 := Lib.hid hj1
      clear hg hor hj1
      go_wp2
      refine wp_region_still_tail 9 (by kernel_rfl) (by kernel_rfl) ?_
      simp only [List.take_succ_cons, List.take_zero, List.drop_succ_cons, List.drop_zero]
      still_step
      still_step
      still_step
      still_step
      refine still_w (by rfl) (exec_loadId _ rfl _ _ _ HX.out rfl HCA.out) ?_
      simp only [Act.put, List.setIfInBounds_toArray, List.set_cons_zero, List.set_cons_succ]
      still_step
      still_step
      still_step
      refine still_w (by rfl) (exec_loadId _ rfl _ _ _ HY.out rfl HCB.out) ?_
      simp only [Act.put, List.setIfInBounds_toArray, List.set_cons_zero, List.set_cons_succ]
      refine wpStill_nil ?_
      change wpList _ _ _ _ _ wr.drew
      clear k1 k3
      generalize wr.drew = w2 at hbd ⊢
      obtain ⟨z, hz⟩ : ∃ z, z = cmpF (l.getD (j - 1) []) (l.getD j []) := ⟨_, rfl⟩
      have HC := fun W => Lib.hid (cmp_is _ _ z W HX.out HY.out hz)
      have HZ := Lib.hid hz
      clear hz
      by_cases hc : 0 ≤ z
      · have HE := Lib.hid (isSetF_no HJ1.out (by rw [HLA.out]; omega) (by rw [← HZ.out]; exact hc))
        go_wp2_with (go_at_call 15; go_must (refine (HC _).out.mono ?_); rintro e w3 ⟨rfl, hb3⟩)
        go_ret
        exact ⟨boolR HE.out.symm, hbd.trans (hb3.mono hbd.size)⟩
      · have HN := Lib.hid (hinv.out.next (by rw [← HZ.out]; omega))
        have hcf : decide (0 ≤ z) = false := decide_eq_false hc
        clear hc
        go_wp2_with (go_at_call 15; go_must (refine (HC _).out.mono ?_); rintro e w3 ⟨rfl, hb3⟩)
        go_roundg (gk - 1)
        case measure => have := HG.out; omega
        case rel => exact ⟨j + 1, hbd.trans (hb3.mono hbd.size), by go_num, by omega, by have := HG.out; omega, HN, .inl (by omega)⟩
    · have HE := Lib.hid (show isSetF l = true from UpTo.end (fun i hi => by
        rcases hor with h1 | h1
        · exact hinv.out i (by rw [HLA.out] at hi; omega)
        · rw [HLA.out] at hi; omega))
      clear hg hor
      go_wp2
      go_ret
      exact ⟨boolR HE.out.symm, hbw⟩
#print axioms isSet_any

end Go.Proofs.Ytglgjhmcdkooiaa
