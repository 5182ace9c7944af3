/-
  The walks of Find, the program's and the document's.
-/
import Derived.Test.YtglgjhmcdkooiaaIdFns
namespace Go.Proofs.Ytglgjhmcdkooiaa
open Go.RowKit

/-- What Find answers. -/
def findF (l : List (List UInt8)) (x : List UInt8) : Nat × Bool := if isSetF l = true then (aheadF l x, decide (x ∈ l)) else (0, false)
def FindIs (r : Nat × Bool) (w : World) (e : Ending) (w' : World) : Prop := e = .returned (.tuple #[.int .i64 r.1, .bool r.2]) ∧ Below w.heap.size w w'
theorem FindIs.mk {r : Nat × Bool} {z : Int} {b : Bool} {w w' : World} (h1 : z = (r.1 : Int)) (h2 : b = r.2) (hb : Below w.heap.size w w') : FindIs r w (.returned (.tuple #[.int .i64 z, .bool b])) w' := by
  subst h1 h2; exact ⟨rfl, hb⟩

theorem findF_no {l : List (List UInt8)} {x : List UInt8} (h : isSetF l = false) : findF l x = (0, false) := by unfold findF; rw [if_neg (by simp [h])]
theorem findF_yes {l : List (List UInt8)} {x : List UInt8} (h : isSetF l = true) : findF l x = (aheadF l x, decide (x ∈ l)) := by unfold findF; rw [if_pos h]

/-- All ahead of a place stand ahead; none from a place on does. -/
def Lows (l : List (List UInt8)) (x : List UInt8) (j : Nat) : Prop := ∀ i, i < j → cmpF (l.getD i []) x < 0
def Highs (l : List (List UInt8)) (x : List UInt8) (j : Nat) : Prop := ∀ i, j ≤ i → i < l.length → 0 ≤ cmpF (l.getD i []) x

theorem set_lt {l : List (List UInt8)} (h : SetF l) {i j : Nat} (hij : i < j) (hj : j < l.length) : cmpF (l.getD i []) (l.getD j []) < 0 := by
  have := List.pairwise_iff_getElem.1 h i j (by omega) hj hij
  simpa [show i < l.length by omega, hj] using this
theorem lows_of {l : List (List UInt8)} (h : SetF l) {x : List UInt8} {m : Nat} (hm : m < l.length) (hc : cmpF (l.getD m []) x < 0) : Lows l x (m + 1) := fun i hi => by
  rcases Nat.lt_or_ge i m with h1 | h1
  · exact cmpF_lt_trans (set_lt h h1 hm) hc
  · obtain rfl : i = m := by omega
    exact hc
theorem highs_of {l : List (List UInt8)} (h : SetF l) {x : List UInt8} {m : Nat} (hm : m < l.length) (hc : 0 ≤ cmpF (l.getD m []) x) : Highs l x m := fun i hi hil => by
  rcases Nat.lt_or_ge m i with h1 | h1
  · have h2 := set_lt h h1 hil
    rcases Int.lt_or_le (cmpF (l.getD i []) x) 0 with h3 | h3
    · have := cmpF_lt_trans h2 h3
      omega
    · exact h3
  · obtain rfl : i = m := by omega
    exact hc
theorem place_of {l : List (List UInt8)} {x : List UInt8} {j : Nat} (hj : j ≤ l.length) (h1 : Lows l x j) (h2 : Highs l x j) : aheadF l x = j :=
  (aheadF_of hj h1 (fun h => h2 j (Nat.le_refl _) h)).symm
theorem there_of {l : List (List UInt8)} (h : SetF l) {x : List UInt8} {j : Nat} (hp : aheadF l x = j) (hj : j < l.length) : decide (x ∈ l) = decide (l.getD j [] = x) := by
  rw [decide_eq_decide, mem_at h x, hp]
  exact ⟨fun h => h.2, fun h => ⟨hj, h⟩⟩
theorem none_of {l : List (List UInt8)} (h : SetF l) {x : List UInt8} {j : Nat} (hp : aheadF l x = j) (hj : l.length ≤ j) : decide (x ∈ l) = false := by
  rw [decide_eq_false_iff_not, mem_at h x, hp]
  omega

theorem isSet_is (a : Option Addr) (n c : Nat) (l : List (List UInt8)) (b : Bool) (w : World) (ha : IdsAt w a n c l) (hn : n ≤ 1000000000000) (hb : isSetF l = b) :
    Calls Try.prog 21 #[.slice a n c] w fun e w' => e = .returned (.bool b) ∧ Below w.heap.size w w' := by
  subst hb; exact isSet_any a n c l w ha hn
set_option maxRecDepth 100000 in
set_option maxHeartbeats 400000 in
theorem find_no (a : Option Addr) (n c : Nat) (l : List (List UInt8)) (x : List UInt8) (w : World) (ha : IdsAt w a n c l) (hn : n ≤ 1000000000000) (hset : isSetF l = false) :
    Calls Try.prog 12 #[.slice a n c, .agg (idCells x)] w (FindIs (findF l x) w) := by
  have hbel : Below w.heap.size w (w.alloc (.cells (idCells x) 31)) := (Below.refl _ _).alloc (Nat.le_refl _) _
  have HS := Lib.hid (isSet_is a n c l false _ (ha.below hbel) hn hset)
  have HF := Lib.hid (findF_no (x := x) hset)
  have HB := Lib.hid hbel
  clear ha hn hset hbel
  go_enter Try.func12, Try.ntmps12
  go_wp2_with (go_at_call 21; go_must (refine HS.out.mono ?_); rintro e w1 ⟨rfl, hb1⟩)
  go_ret2
  rw [HF.out]
  exact ⟨rfl, HB.out.trans (hb1.mono HB.out.size)⟩

set_option maxRecDepth 100000 in
set_option maxHeartbeats 2000000 in
theorem find_yes (a : Option Addr) (n c : Nat) (l : List (List UInt8)) (x : List UInt8) (w : World) (ha : IdsAt w a n c l) (hx : x.length = 32) (hn : n ≤ 1000000000000) (hset : isSetF l = true) :
    Calls Try.prog 12 #[.slice a n c, .agg (idCells x)] w (FindIs (findF l x) w) := by
  have hbel : Below w.heap.size w (w.alloc (.cells (idCells x) 31)) := (Below.refl _ _).alloc (Nat.le_refl _) _
  have HS := Lib.hid (isSet_is a n c l true _ (ha.below hbel) hn hset)
  have HF := Lib.hid (findF_yes (x := x) hset)
  have HSET := Lib.hid ((isSetF_iff l).1 hset)
  have HA := Lib.hid (ha.below hbel)
  have HLA := Lib.hid ha.1
  have HXI := Lib.hid (idAt_new w x hx)
  have HXL := Lib.hid hx
  have HB := Lib.hid hbel
  have HL0 := Lib.hid (show Lows l x 0 from fun i hi => by omega)
  have HH0 := Lib.hid (show Highs l x n from fun i hi hil => by rw [HLA.out] at hil; omega)
  have hnI : (n : Int) ≤ 1000000000000 := by omega
  clear ha hx hbel hn hset
  go_enter Try.func12, Try.ntmps12
  go_wp2_with (go_at_call 21; go_must (refine HS.out.mono ?_); rintro e w1 ⟨rfl, hb1⟩)
  have HA1 := Lib.hid (HA.out.below hb1)
  have HX1 := Lib.hid (HXI.out.below hb1)
  have HB1 := Lib.hid (HB.out.trans (hb1.mono HB.out.size))
  go_loopg [6, 7] n (fun g v6 v7 W => ∃ lo hi : Nat, Below w1.heap.size w1 W ∧ v6 = .int .i64 lo ∧ v7 = .int .i64 hi ∧ lo ≤ hi ∧ hi ≤ n ∧ hi - lo ≤ g ∧ Hid (Lows l x lo) ∧ Hid (Highs l x hi))
  case atStart => exact ⟨0, n, Below.refl _ _, rfl, rfl, by omega, by omega, by omega, HL0, HH0⟩
  case round =>
    obtain ⟨lo, hi, hbw, rfl, rfl, hlh, hhn, hg, hlow, hhigh⟩ := hrel
    have HG := Lib.hid hg
    have h0 : (0 : Int) ≤ (lo : Int) := by omega
    have h1 : (lo : Int) ≤ (hi : Int) := by omega
    have h2 : (hi : Int) ≤ (n : Int) := by omega
    have hbw' := HB1.out.trans (hbw.mono HB1.out.size)
    by_cases hlt : (lo : Int) < (hi : Int)
    · obtain ⟨m, hm⟩ : ∃ m : Nat, (lo : Int) + ((hi : Int) - (lo : Int)) / 2 = (m : Int) := ⟨((lo : Int) + ((hi : Int) - (lo : Int)) / 2).toNat, by omega⟩
      have hmb : lo ≤ m ∧ m < hi := by omega
      have HM := Lib.hid hmb
      obtain ⟨ba, oa, rfl⟩ := HA1.out.some_ (by omega)
      have HCA := Lib.hid ((HA1.out.below hbw.drew).at_ m (by omega))
      have HCX := Lib.hid (HX1.out.below hbw.drew).range
      have HY := Lib.hid (getD_32 HA1.out.2.2.2.1 (i := m) (by rw [HLA.out]; omega))
      have hbd := hbw.drew
      have k1 : (0 : Int) ≤ (m : Int) := by omega
      have k2 : (m : Int) < (n : Int) := by omega
      have k3 : m < n := by omega
      obtain ⟨z, hz⟩ : ∃ z, z = cmpF (l.getD m []) x := ⟨_, rfl⟩
      have HC := fun W => Lib.hid (cmp_is _ _ z W HY.out HXL.out hz)
      have HZ := Lib.hid hz
      clear hg hmb hlh hhn hz
      go_wp2
      clear hm
      refine wp_region_still_tail 5 (by kernel_rfl) (by kernel_rfl) ?_
      simp only [List.take_succ_cons, List.take_zero, List.drop_succ_cons, List.drop_zero]
      still_step
      still_step
      still_step
      refine still_w (by rfl) (exec_loadId _ rfl _ _ _ HY.out rfl HCA.out) ?_
      simp only [Act.put, List.setIfInBounds_toArray, List.set_cons_zero, List.set_cons_succ]
      refine still_w (by rfl) (exec_loadId _ rfl _ _ _ HXL.out rfl HCX.out) ?_
      simp only [Act.put, List.setIfInBounds_toArray, List.set_cons_zero, List.set_cons_succ]
      refine wpStill_nil ?_
      change wpList _ _ _ _ _ wr.drew
      generalize wr.drew = w2 at hbd ⊢
      by_cases hc : z < 0
      · have HN := Lib.hid (lows_of HSET.out (x := x) (by rw [HLA.out]; omega) (by rw [← HZ.out]; exact hc))
        go_wp2_with (go_at_call 15; go_must (refine (HC _).out.mono ?_); rintro e w3 ⟨rfl, hb3⟩)
        go_roundg (gk - 1)
        case measure => have := HG.out; have := HM.out; omega
        case rel => exact ⟨m + 1, hi, hbd.trans (hb3.mono hbd.size), by go_num, rfl, by have := HM.out; omega, by omega, by have := HG.out; have := HM.out; omega, HN, hhigh⟩
      · have HN := Lib.hid (highs_of HSET.out (x := x) (by rw [HLA.out]; omega) (by rw [← HZ.out]; omega))
        have hcf : decide (z < 0) = false := decide_eq_false hc
        clear hc
        go_wp2_with (go_at_call 15; go_must (refine (HC _).out.mono ?_); rintro e w3 ⟨rfl, hb3⟩)
        go_roundg (gk - 1)
        case measure => have := HG.out; have := HM.out; omega
        case rel => exact ⟨lo, m, hbd.trans (hb3.mono hbd.size), rfl, rfl, by have := HM.out; omega, by omega, by have := HG.out; have := HM.out; omega, hlow, HN⟩
    · have hlo : lo = hi := by omega
      subst hlo
      have HP := Lib.hid (place_of (by rw [HLA.out]; omega) hlow.out hhigh.out)
      have hbd := hbw'.drew
      by_cases hln : (lo : Int) < (n : Int)
      · obtain ⟨ba, oa, rfl⟩ := HA1.out.some_ (by omega)
        have HCA := Lib.hid ((HA1.out.below hbw.drew).at_ lo (by omega))
        have HCX := Lib.hid (HX1.out.below hbw.drew).range
        have HY := Lib.hid (getD_32 HA1.out.2.2.2.1 (i := lo) (by rw [HLA.out]; omega))
        have HT := Lib.hid (there_of HSET.out HP.out (by rw [HLA.out]; omega))
        have k3 : lo < n := by omega
        clear hg hlh hhn
        go_wp2
        refine wp_region_still_lit (by kernel_rfl) (by kernel_rfl) ?_
        still_step
        still_step
        still_step
        still_step
        still_step
        still_step
        still_step
        still_step
        still_step
        refine still_w (by rfl) (exec_loadId _ rfl _ _ _ HY.out rfl HCA.out) ?_
        simp only [Act.put, List.setIfInBounds_toArray, List.set_cons_zero, List.set_cons_succ]
        refine still_w (by rfl) (exec_loadId _ rfl _ _ _ HXL.out rfl HCX.out) ?_
        simp only [Act.put, List.setIfInBounds_toArray, List.set_cons_zero, List.set_cons_succ]
        refine still_w (by rfl) (exec_eqlId _ _ _ rfl _ _ HY.out HXL.out rfl rfl) ?_
        simp only [Act.put, List.setIfInBounds_toArray, List.set_cons_zero, List.set_cons_succ]
        still_step
        still_step
        still_step
        refine wpStill_nil ?_
        change Exit.then _ _ _ _ wr.drew
        generalize wr.drew = w2 at hbd ⊢
        go_wp2
        go_ret2
        exact FindIs.mk (by rw [HF.out, HP.out]) (by rw [HF.out, HT.out]; rfl) hbd
      · have HT := Lib.hid (none_of HSET.out HP.out (by rw [HLA.out]; omega))
        have hdn : decide (lo < n) = false := decide_eq_false (by omega)
        clear hg hlh hhn
        go_wp2
        go_quiet (fail)
        go_wp2
        go_ret2
        exact FindIs.mk (by rw [HF.out, HP.out]) (by rw [HF.out, HT.out]) (below_drewN hbw' _)
#print axioms find_yes

theorem find_any (a : Option Addr) (n c : Nat) (l : List (List UInt8)) (x : List UInt8) (w : World) (ha : IdsAt w a n c l) (hx : x.length = 32) (hn : n ≤ 1000000000000) :
    Calls Try.prog 12 #[.slice a n c, .agg (idCells x)] w (FindIs (findF l x) w) := by
  cases h : isSetF l with
  | true => exact find_yes a n c l x w ha hx hn h
  | false => exact find_no a n c l x w ha hn h

end Go.Proofs.Ytglgjhmcdkooiaa
