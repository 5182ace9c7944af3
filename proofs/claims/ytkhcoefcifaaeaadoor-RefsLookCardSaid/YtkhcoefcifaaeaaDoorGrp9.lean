/-
  Merged: OrdRefCmp, IdFns, RfZero.
-/
import Derived.Test.YtkhcoefcifaaeaaDoorGrp3
import Derived.Deep.LoopGhost
import Derived.Test.YtkhcoefcifaaeaaDoorGrp4
import Derived.IntWalk
import Derived.Test.YtkhcoefcifaaeaaDoorGrp8
namespace Go.Proofs.YtkhcoefcifaaeaaDoor
open Go.RowKit

theorem two_boxes (w : World) (l k : List UInt8) (hl : l.length = 32) (hk : k.length = 32) :
    IdAt ((w.alloc (.cells (idCells l) 24)).alloc (.cells (idCells k) 24)) w.heap.size l ∧
    IdAt ((w.alloc (.cells (idCells l) 24)).alloc (.cells (idCells k) 24)) (w.heap.size + 1) k :=
  ⟨⟨hl, by rw [heap_alloc_old (h := by simp), heap_alloc_new]⟩,
   ⟨hk, by have := heap_alloc_new (w.alloc (.cells (idCells l) 24)) (.cells (idCells k) 24); simpa using this⟩⟩

/-- As far as the two are alike. -/
def SameTo (l k : List UInt8) (j : Nat) : Prop := l.take j = k.take j

theorem SameTo.lt {l k : List UInt8} {j : Nat} (h : SameTo l k j) (hl : j < l.length) (hk : j < k.length) (hc : (l.getD j 0).toNat < (k.getD j 0).toNat) : cmpF l k = -1 := by
  rw [cmpF_at j l k h hl hk, if_pos hc]
theorem SameTo.gt {l k : List UInt8} {j : Nat} (h : SameTo l k j) (hl : j < l.length) (hk : j < k.length) (hc : (k.getD j 0).toNat < (l.getD j 0).toNat) : cmpF l k = 1 := by
  rw [cmpF_at j l k h hl hk, if_neg (by omega), if_pos hc]
theorem SameTo.next {l k : List UInt8} {j : Nat} (h : SameTo l k j) (hl : j < l.length) (hk : j < k.length) (h1 : ¬ (l.getD j 0).toNat < (k.getD j 0).toNat) (h2 : ¬ (k.getD j 0).toNat < (l.getD j 0).toNat) : SameTo l k (j + 1) := by
  unfold SameTo at h ⊢
  rw [List.take_succ_eq_append_getElem hl, List.take_succ_eq_append_getElem hk, h]
  have e : (l.getD j 0) = (k.getD j 0) := UInt8.toNat_inj.1 (by omega)
  simp [hl, hk] at e
  rw [e]
theorem SameTo.all {l k : List UInt8} (h : SameTo l k 32) (hl : l.length = 32) (hk : k.length = 32) : cmpF l k = 0 := by
  unfold SameTo at h
  rw [List.take_of_length_le (by omega), List.take_of_length_le (by omega)] at h
  rw [h, cmpF_self]

set_option maxRecDepth 100000 in
set_option maxHeartbeats 1000000 in
theorem refCompare_any (l k : List UInt8) (w : World) (hl : l.length = 32) (hk : k.length = 32) :
    Calls Tryd.prog 68 #[.agg (idCells l), .agg (idCells k)] w (CmpIs l k w) := by
  obtain ⟨hA, hB⟩ := two_boxes w l k hl hk
  have HA := Lib.hid hA
  have HB := Lib.hid hB
  have HL := Lib.hid hl
  have HK := Lib.hid hk
  have HI := Lib.hid (show SameTo l k 0 from rfl)
  clear hA hB hl hk
  go_enter Tryd.func68, Tryd.ntmps68
  go_wp2
  go_loopg [5] 32 (fun g v5 W => ∃ j : Nat, Below ((w.alloc (.cells (idCells l) 24)).alloc (.cells (idCells k) 24)).heap.size ((w.alloc (.cells (idCells l) 24)).alloc (.cells (idCells k) 24)) W ∧ v5 = .int .i64 j ∧ g + j = 32 ∧ Hid (SameTo l k j))
  case atStart => exact ⟨0, Below.refl _ _, rfl, rfl, HI⟩
  case round =>
    obtain ⟨j, hbw, rfl, hg, hinv⟩ := hrel
    have HG := Lib.hid hg
    have hb2 := ((((Below.refl w.heap.size w).alloc (Nat.le_refl _) (.cells (idCells l) 24)).alloc (by simp) (.cells (idCells k) 24)).trans (hbw.mono (by simp; omega)))
    by_cases hj : (j : Int) < 32
    · have ha := (HA.out.below hbw).cell j (by omega)
      have hb := (HB.out.below hbw).cell j (by omega)
      have hj' : j < 32 := by omega
      obtain ⟨x, hx⟩ : ∃ x : Int, x = ((l.getD j 0).toNat : Int) := ⟨_, rfl⟩
      obtain ⟨y, hy⟩ : ∃ y : Int, y = ((k.getD j 0).toNat : Int) := ⟨_, rfl⟩
      unfold B at ha hb
      rw [← hx] at ha
      rw [← hy] at hb
      have HX := Lib.hid hx
      have HY := Lib.hid hy
      have HJ := Lib.hid hj'
      have h0 : (0 : Int) ≤ (j : Int) := by omega
      clear hx hy hg hj'
      by_cases h1 : x < y
      · have HE := Lib.hid (hinv.out.lt (by rw [HL.out]; exact HJ.out) (by rw [HK.out]; exact HJ.out) (by have := HX.out; have := HY.out; omega))
        go_wp2
        go_quiet (fail)
        go_wp2
        go_ret
        exact ⟨by rw [HE.out]; rfl, Go.below_drewN hb2 _⟩
      · by_cases h2 : y < x
        · have HE := Lib.hid (hinv.out.gt (by rw [HL.out]; exact HJ.out) (by rw [HK.out]; exact HJ.out) (by have := HX.out; have := HY.out; omega))
          have d1 : decide (x < y) = false := decide_eq_false h1
          clear h1
          go_wp2
          go_quiet (fail)
          go_wp2
          go_quiet (fail)
          go_wp2
          go_ret
          exact ⟨by rw [HE.out]; rfl, Go.below_drewN (Go.below_drewN hb2 _) _⟩
        · have HN := Lib.hid (hinv.out.next (by rw [HL.out]; exact HJ.out) (by rw [HK.out]; exact HJ.out) (by have := HX.out; have := HY.out; omega) (by have := HX.out; have := HY.out; omega))
          have d1 : decide (x < y) = false := decide_eq_false h1
          have d2 : decide (y < x) = false := decide_eq_false h2
          clear h1 h2
          go_wp2
          go_quiet (fail)
          go_wp2
          go_quiet (fail)
          go_wp2
          go_roundg (gk - 1)
          case measure => have := HG.out; omega
          case rel => exact ⟨j + 1, Go.below_drewN hbw _, by go_num, by have := HG.out; omega, HN⟩
    · have HE := Lib.hid ((show SameTo l k 32 by have := hinv.out; have hj32 : j = 32 := (by omega); rw [hj32] at this; exact this).all HL.out HK.out)
      clear hg
      go_wp2
      go_ret
      exact ⟨by rw [HE.out]; rfl, hb2⟩
#print axioms refCompare_any
end Go.Proofs.YtkhcoefcifaaeaaDoor

namespace Go.Proofs.YtkhcoefcifaaeaaDoor
open Go.RowKit

theorem ownI_empty (w : World) : OwnI (w.alloc (.cells #[] 24)) w.heap.size (.slice (some ⟨w.heap.size, 0, none⟩) 0 0) [] :=
  ⟨World.ownsRow_lit w #[] 0 (Nat.le_refl _) (by unfold maxLen; omega) rfl, (fun _ h => by cases h)⟩

/-- As far as it is not there. -/
def NotTo (l : List (List UInt8)) (x : List UInt8) (j : Nat) : Prop := ∀ i, i < j → l.getD i [] ≠ x
theorem NotTo.next {l : List (List UInt8)} {x : List UInt8} {j : Nat} (h : NotTo l x j) (hn : l.getD j [] ≠ x) : NotTo l x (j + 1) := fun i hi => by
  rcases Nat.lt_or_ge i j with h1 | h1
  · exact h i h1
  · obtain rfl : i = j := by omega
    exact hn
theorem NotTo.end {l : List (List UInt8)} {x : List UInt8} (h : NotTo l x l.length) : x ∉ l := fun hx => by
  obtain ⟨i, hi, rfl⟩ := List.getElem_of_mem hx
  exact h i hi (by simp [hi])
theorem mem_of_getD {l : List (List UInt8)} {x : List UInt8} {j : Nat} (hj : j < l.length) (h : l.getD j [] = x) : x ∈ l := by
  rw [← h]
  have : l.getD j [] = l[j] := by simp [hj]
  rw [this]
  exact List.getElem_mem hj

theorem idAt_new (w : World) (x : List UInt8) (hx : x.length = 32) : IdAt (w.alloc (.cells (idCells x) 24)) w.heap.size x := ⟨hx, heap_alloc_new w _⟩

set_option maxRecDepth 100000 in
set_option maxHeartbeats 1000000 in
theorem in_any (a : Option Addr) (n c : Nat) (l : List (List UInt8)) (x : List UInt8) (w : World) (ha : IdsAt w a n c l) (hx : x.length = 32) (hn : n ≤ 1000000000000) :
    Calls Tryd.prog 42 #[.slice a n c, .agg (idCells x)] w fun e w' => e = .returned (.bool (decide (x ∈ l))) ∧ Below w.heap.size w w' := by
  have hbel : Below w.heap.size w (w.alloc (.cells (idCells x) 24)) := (Below.refl _ _).alloc (Nat.le_refl _) _
  have HA := Lib.hid (ha.below hbel)
  have HLA := Lib.hid ha.1
  have HXI := Lib.hid (idAt_new w x hx)
  have HXL := Lib.hid hx
  have HB := Lib.hid hbel
  have HI := Lib.hid (show NotTo l x 0 from fun i hi => by omega)
  have hnI : (n : Int) ≤ 1000000000000 := by omega
  clear ha hx hbel hn
  go_enter Tryd.func42, Tryd.ntmps42
  go_wp2
  generalize w.alloc (.cells (idCells x) 24) = W0 at HA HXI HB ⊢
  go_loopg [5] n (fun g v5 W => ∃ j : Nat, Below W0.heap.size W0 W ∧ v5 = .int .i64 j ∧ g + j = n ∧ Hid (NotTo l x j))
  case atStart => exact ⟨0, Below.refl _ _, rfl, rfl, HI⟩
  case round =>
    obtain ⟨j, hbw, rfl, hg, hinv⟩ := hrel
    have HG := Lib.hid hg
    have hj0 : (0 : Int) ≤ (j : Int) := by omega
    have hjI : (j : Int) ≤ (n : Int) := by omega
    have hbw' := HB.out.trans (hbw.mono HB.out.size)
    by_cases hj : (j : Int) < (n : Int)
    · obtain ⟨ba, oa, rfl⟩ := HA.out.some_ (by omega)
      have HCA := Lib.hid ((HA.out.below hbw.drew).at_ j (by omega))
      have HCX := Lib.hid (HXI.out.below hbw.drew).range
      have HX := Lib.hid (getD_32 HA.out.2.2.2.1 (i := j) (by rw [HLA.out]; omega))
      have hbd := hbw.drew
      have hbd' := hbw'.drew
      clear hg
      go_wp2
      refine wp_region_still_lit (by kernel_rfl) (by kernel_rfl) ?_
      still_step
      still_step
      still_step
      refine still_w (by rfl) (exec_loadId _ rfl _ _ _ HX.out rfl HCA.out) ?_
      simp only [Act.put, List.setIfInBounds_toArray, List.set_cons_zero, List.set_cons_succ]
      refine still_w (by rfl) (exec_loadId _ rfl _ _ _ HXL.out rfl HCX.out) ?_
      simp only [Act.put, List.setIfInBounds_toArray, List.set_cons_zero, List.set_cons_succ]
      refine still_w (by rfl) (exec_eqlId _ _ _ rfl _ _ HX.out HXL.out rfl rfl) ?_
      simp only [Act.put, List.setIfInBounds_toArray, List.set_cons_zero, List.set_cons_succ]
      refine wpStill_nil ?_
      change Exit.then _ _ _ _ wr.drew
      generalize wr.drew = w2 at hbd hbd' ⊢
      by_cases he : l.getD j [] = x
      · have HN := Lib.hid (mem_of_getD (by rw [HLA.out]; omega) he)
        rw [decide_eq_true he]
        clear he
        go_wp2
        go_ret
        exact ⟨boolR (decide_eq_true HN.out).symm, hbd'⟩
      · have HN := Lib.hid (hinv.out.next he)
        rw [decide_eq_false he]
        clear he
        go_wp2
        go_roundg (gk - 1)
        case measure => have := HG.out; omega
        case rel => exact ⟨j + 1, hbd, by go_num, by have := HG.out; omega, HN⟩
    · have HE := Lib.hid (show x ∉ l from NotTo.end (by have h1 := hinv.out; rw [HLA.out]; rw [show j = n from by omega] at h1; exact h1))
      clear hg
      go_wp2
      go_ret
      exact ⟨boolR (decide_eq_false HE.out).symm, hbw'⟩
#print axioms in_any

/-! ### IsSet -/
/-- As far as each stands ahead of the next. -/
def UpTo (l : List (List UInt8)) (j : Nat) : Prop := ∀ i, i + 1 < j → cmpF (l.getD i []) (l.getD (i + 1) []) < 0
theorem UpTo.next {l : List (List UInt8)} {j : Nat} (h : UpTo l j) (hc : cmpF (l.getD (j - 1) []) (l.getD j []) < 0) : UpTo l (j + 1) := fun i hi => by
  rcases Nat.lt_or_ge (i + 1) j with h1 | h1
  · exact h i h1
  · obtain rfl : i = j - 1 := by omega
    rw [show j - 1 + 1 = j from by omega]
    exact hc
/-- Is it a set? -/
def isSetF (l : List (List UInt8)) : Bool := decide (∀ i, i < l.length - 1 → cmpF (l.getD i []) (l.getD (i + 1) []) < 0)
theorem isSetF_iff (l : List (List UInt8)) : isSetF l = true ↔ SetF l := by
  unfold isSetF
  rw [decide_eq_true_iff, setF_chain]
  constructor
  · intro h i hi; exact h i (by omega)
  · intro h i hi; exact h i (by omega)
theorem UpTo.end {l : List (List UInt8)} (h : UpTo l l.length) : isSetF l = true := by
  rw [isSetF_iff, setF_chain]
  exact fun i hi => h i hi
theorem isSetF_no {l : List (List UInt8)} {j : Nat} (h1 : 1 ≤ j) (hj : j < l.length) (hc : 0 ≤ cmpF (l.getD (j - 1) []) (l.getD j [])) : isSetF l = false := by
  rw [Bool.eq_false_iff]
  intro h
  rw [isSetF_iff, setF_chain] at h
  have := h (j - 1) (by omega)
  rw [show j - 1 + 1 = j from by omega] at this
  omega

theorem cmp_is (l k : List UInt8) (z : Int) (w : World) (hl : l.length = 32) (hk : k.length = 32) (h : z = cmpF l k) : Calls Tryd.prog 53 #[.agg (idCells l), .agg (idCells k)] w fun e w' => e = .returned (.int .i64 z) ∧ Below w.heap.size w w' := by
  subst h; exact compare_any l k w hl hk
theorem refCmp_is (l k : List UInt8) (z : Int) (w : World) (hl : l.length = 32) (hk : k.length = 32) (h : z = cmpF l k) : Calls Tryd.prog 68 #[.agg (idCells l), .agg (idCells k)] w fun e w' => e = .returned (.int .i64 z) ∧ Below w.heap.size w w' := by
  subst h; exact refCompare_any l k w hl hk

end Go.Proofs.YtkhcoefcifaaeaaDoor

namespace Go.Proofs.YtkhcoefcifaaeaaDoor
open Go.RowKit

theorem built_zid : Tryd.prog.built 24 [] = some (idCells idZero) := by kernel_rfl
theorem exec_zid {w : World} {o : Oper} {a : Act} (ho : o.op = .build 24 #[]) : (execOp a.eval o).run Tryd.prog w = .ok (.value (.agg (idCells idZero))) w := by
  refine exec_build _ _ ho _ ?_
  simpa using built_zid
theorem len_idZero : idZero.length = 32 := rfl
theorem zero_any (l : List UInt8) (hl : l.length = 32) (q : Bool) (hq : decide (l = idZero) = q) (w : World) :
    Calls Tryd.prog 55 #[.agg (idCells l)] w fun e w' => e = .returned (.bool q) ∧ Below w.heap.size w w' := by
  have HL := Lib.hid hl
  have HI := Lib.hid (idAt_new w l hl)
  have HQ := Lib.hid hq
  have HB := Lib.hid ((Below.refl w.heap.size w).alloc (Nat.le_refl _) (.cells (idCells l) 24))
  clear hl hq
  go_enter Tryd.func55, Tryd.ntmps55
  go_wp2_with (first
    | ((with_reducible show wpList _ _ _ (⟨some 3, _, _, _, _, _⟩ :: _) _ _); go_must (refine wl_load rfl _ rfl _ _ l HL.out rfl HI.out.range ?_))
    | ((with_reducible show wpList _ _ _ (⟨some 4, _, _, _, _, _⟩ :: _) _ _); go_must (refine wl_ex rfl (exec_zid rfl) ?_))
    | ((with_reducible show wpList _ _ _ (⟨some 5, _, _, _, _, _⟩ :: _) _ _); go_must (refine wl_ex rfl (exec_eqlId _ _ _ rfl l idZero HL.out len_idZero rfl rfl) ?_); rw [HQ.out]))
  go_ret
  exact ⟨rfl, HB.out⟩

theorem name_is (n : List UInt8) (q : Bool) (hq : nameF n = q) (w : World) : Calls Tryd.prog 54 #[.string (strB n)] w fun e w' => e = .returned (.bool q) ∧ Below w.heap.size w w' := by
  have h := name_any (strB n) w
  rw [strB_list, hq] at h
  exact h
/-- May a head be? -/
def headF (h a : List UInt8) : Bool := if h = [] then !decide (a = idZero) else nameF h && decide (a = idZero)
theorem strB_nil (h : List UInt8) : ((strB h).toList == []) = decide (h = []) := by
  rw [Lib.toList_data, strB_list]
  cases h <;> rfl
theorem head_any (h a : List UInt8) (ha : a.length = 32) (q : Bool) (hq : headF h a = q) (w : World) :
    Calls Tryd.prog 31 #[.string (strB h), .agg (idCells a)] w fun e w' => e = .returned (.bool q) ∧ Below w.heap.size w w' := by
  have HL := Lib.hid ha
  have HI := Lib.hid (idAt_new w a ha)
  have HB := Lib.hid ((Below.refl w.heap.size w).alloc (Nat.le_refl _) (.cells (idCells a) 24))
  obtain ⟨z, hz⟩ : ∃ z, decide (a = idZero) = z := ⟨_, rfl⟩
  obtain ⟨m, hm⟩ : ∃ m, nameF h = m := ⟨_, rfl⟩
  have HZ := Lib.hid (fun W => zero_any a ha z hz W)
  have HN := Lib.hid (fun W => name_is h m hm W)
  unfold headF at hq
  rw [hz, hm] at hq
  obtain ⟨p, hp⟩ : ∃ p, strB h = p := ⟨_, rfl⟩
  by_cases he : h = []
  · rw [if_pos he] at hq
    have d0 : (p.toList == []) = true := by rw [← hp, strB_nil, decide_eq_true he]
    rw [hp] at HN ⊢
    have HQ := Lib.hid hq
    clear ha hz hm hq hp he
    go_enter Tryd.func31, Tryd.ntmps31
    go_wp2_with (first
      | ((with_reducible show wpList _ _ _ (⟨some 7, _, _, _, _, _⟩ :: _) _ _); go_must (refine wl_load rfl _ rfl _ _ a HL.out rfl HI.out.range ?_))
      | (go_at_call 55; go_must (refine (HZ.out _).mono ?_); rintro e w2 ⟨rfl, hb2⟩))
    go_ret
    exact ⟨by rw [← HQ.out]; rfl, Below.trans HB.out (hb2.mono HB.out.size)⟩
  · rw [if_neg he] at hq
    have d0 : (p.toList == []) = false := by rw [← hp, strB_nil, decide_eq_false he]
    rw [hp] at HN ⊢
    have HQ := Lib.hid hq
    clear ha hz hm hq hp he
    cases m
    · go_enter Tryd.func31, Tryd.ntmps31
      go_wp2_with (go_at_call 54; go_must (refine (HN.out _).mono ?_); rintro e w2 ⟨rfl, hb2⟩)
      go_ret
      exact ⟨by rw [← HQ.out]; rfl, Below.trans HB.out (hb2.mono HB.out.size)⟩
    · go_enter Tryd.func31, Tryd.ntmps31
      go_wp2_with (first
        | (go_at_call 54; go_must (refine (HN.out _).mono ?_); rintro e w2 ⟨rfl, hb2⟩; have HI2 := Lib.hid (HI.out.below hb2); have HB2 := Lib.hid (Below.trans HB.out (hb2.mono HB.out.size)); clear hb2)
        | ((with_reducible show wpList _ _ _ (⟨some 13, _, _, _, _, _⟩ :: _) _ _); go_must (refine wl_load rfl _ rfl _ _ a HL.out rfl HI2.out.range ?_))
        | (go_at_call 55; go_must (refine (HZ.out _).mono ?_); rintro e w3 ⟨rfl, hb3⟩))
      go_ret
      exact ⟨by rw [← HQ.out]; rfl, Below.trans HB2.out (hb3.mono HB2.out.size)⟩
#print axioms head_any
end Go.Proofs.YtkhcoefcifaaeaaDoor
