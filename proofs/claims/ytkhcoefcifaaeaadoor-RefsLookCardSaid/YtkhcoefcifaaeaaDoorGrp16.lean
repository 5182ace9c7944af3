/-
  Merged: IdSet, IdFind, OrdKeys, OrdKey, OrdKeysW, OrdAwake.
-/
import Derived.Test.YtkhcoefcifaaeaaDoorGrp15
import Derived.Test.YtkhcoefcifaaeaaDoorIdSort
import Derived.Test.YtkhcoefcifaaeaaDoorGrp9
import Derived.Deep.RegionHeld
namespace Go.Proofs.YtkhcoefcifaaeaaDoor
open Go.RowKit

/-- A slice that reads as these ids; from a block on, all may be new. -/
def MadeS (base : Nat) (w : World) (L : List (List UInt8)) (e : Ending) (w' : World) : Prop := ∃ a c, e = .returned (.slice a L.length c) ∧ IdsAt w' a L.length c L ∧ Below base w w'
theorem MadeS.of {base n c : Nat} {w w' : World} {L M : List (List UInt8)} {a : Option Addr} (h : IdsAt w' a n c M) (hb : Below base w w') (hs : SetF M) (hm : ∀ x, x ∈ M ↔ x ∈ L) : MadeS base w (setF L) (.returned (.slice a n c)) w' := by
  obtain rfl := setF_of hs hm
  have := h.1
  subst this
  exact ⟨a, c, rfl, h, hb⟩

set_option maxRecDepth 100000 in
set_option maxHeartbeats 4000000 in
theorem compact_any (base : Nat) (a : Option Addr) (n c : Nat) (L : List (List UInt8)) (w : World) (hI : IdsAt w a n c L) (hr : 0 < n → ∃ g, a = some ⟨g, 0, none⟩ ∧ base ≤ g ∧ RowC w g L) (hu : Up L) (hn : n ≤ 1000000000) (hbase : base ≤ w.heap.size) :
    Calls Tryd.prog 61 #[.slice a n c] w (MadeS base w (setF L)) := by
  have HLN := Lib.hid hI.1
  have HU := Lib.hid hu
  have hnI : (n : Int) ≤ 1000000000 := by omega
  by_cases h2 : (n : Int) < 2
  · have HI := Lib.hid hI
    have HS := Lib.hid (show SetF L by
      have h1 := hI.1
      rcases L with _ | ⟨x, _ | ⟨y, T⟩⟩
      · simp [SetF]
      · simp [SetF]
      · simp at h1; omega)
    clear hI hr hu hbase
    go_enter Tryd.func61, Tryd.ntmps61
    go_wp2
    go_ret
    exact MadeS.of HI.out (Below.refl _ _) HS.out (fun x => Iff.rfl)
  · obtain ⟨g, rfl, hbg, hrow⟩ := hr (by omega)
    have HB := Lib.hid hbg
    have HBS := Lib.hid hbase
    have HR := Lib.hid hrow
    have hcn : (n : Int) ≤ (c : Int) := by have := hI.2.1; omega
    have hcm : (c : Int) ≤ 9223372036854775807 := by have := hI.2.2.1; omega
    have HC := Lib.hid (And.intro hI.2.1 hI.2.2.1)
    have HO := Lib.hid (show SetF (L.take 1) from one_set (by have := hI.1; omega))
    clear hI hr hu hbase hbg hrow
    go_enter Tryd.func61, Tryd.ntmps61
    go_wp2
    go_loopg [3] n (fun gg v3 W => ∃ i : Nat, v3 = .int .i64 i ∧ 1 ≤ i ∧ (i : Int) ≤ (n : Int) ∧ gg + i = n + 1 ∧ Kept g w W ∧ Hid (RowC W g L) ∧ Hid (SetF (L.take i)))
    case atStart => exact ⟨1, rfl, Nat.le_refl _, by omega, rfl, Kept.refl _ _, HR, HO⟩
    case round =>
      clear HR HO
      obtain ⟨i, rfl, hi1, hiI, hg, hkw, hrow, hset⟩ := hrel
      have HG := Lib.hid hg
      have hi0 : (1 : Int) ≤ (i : Int) := by omega
      by_cases hin : (i : Int) < (n : Int)
      · have hkd := hkw.trans (Kept.of_below (Below.refl _ wr).drew)
        have HRD := Lib.hid (hrow.out.below (Below.refl _ wr).drew)
        have HCA := Lib.hid (HRD.out.at_ i (by rw [HLN.out]; omega))
        have HCB := Lib.hid (HRD.out.at_ (i - 1) (by rw [HLN.out]; omega))
        have HX := Lib.hid (getD_32 HRD.out.1 (i := i) (by rw [HLN.out]; omega))
        have HY := Lib.hid (getD_32 HRD.out.1 (i := i - 1) (by rw [HLN.out]; omega))
        have HIL := Lib.hid (show i < L.length by rw [HLN.out]; omega)
        have k1 : IntKind.i64.wrap ((i : Int) - 1) = (i : Int) - 1 := IntWalk.i64_in _ (by omega)
        have k2 : 0 ≤ (i : Int) - 1 := by omega
        have k3 : ((i : Int) - 1).toNat = i - 1 := by omega
        have k4 : (i : Int) - 1 < (n : Int) := by omega
        have k5 : i - 1 < n := by omega
        have HI1 := Lib.hid hi1
        clear hg hi1 hkw hrow
        go_wp2
        refine wp_region_still_lit (by kernel_rfl) (by kernel_rfl) ?_
        still_step
        still_step
        still_step
        refine still_w (by rfl) (exec_loadId _ rfl _ _ _ HX.out rfl HCA.out) ?_
        simp only [Act.put, List.setIfInBounds_toArray, List.set_cons_zero, List.set_cons_succ]
        still_step
        still_step
        still_step
        still_step
        refine still_w (by rfl) (exec_loadId _ rfl _ _ _ HY.out rfl HCB.out) ?_
        simp only [Act.put, List.setIfInBounds_toArray, List.set_cons_zero, List.set_cons_succ]
        refine still_w (by rfl) (exec_eqlId _ _ _ rfl _ _ HX.out HY.out rfl rfl) ?_
        simp only [Act.put, List.setIfInBounds_toArray, List.set_cons_zero, List.set_cons_succ]
        refine wpStill_nil ?_
        change Exit.then _ _ _ _ wr.drew
        clear k1 k3
        generalize wr.drew = w2 at hkd HRD HCA HCB ⊢
        by_cases he : L.getD i [] = L.getD (i - 1) []
        · have HON := Lib.hid (Once.start hset.out HI1.out HIL.out he)
          rw [decide_eq_true he]
          clear he hset
          have j1 : i ≤ n := by omega
          have j2 : n ≤ c := HC.out.1
          have j3 : (c = i) = False := eq_false (by omega)
          have hRk := HRD
          go_wp2
          go_loopg [3, 5] n (fun gg v3 v5 W => ∃ (k j : Nat) (R : List (List UInt8)), v3 = .int .i64 k ∧ v5 = .int .i64 j ∧ 1 ≤ j ∧ (j : Int) ≤ ((n - i : Nat) : Int) ∧ (k : Int) < (n : Int) ∧ gg + j = n + 1 ∧ Kept g w W ∧ Hid (RowC W g R) ∧ Hid (Once L (i + (j - 1)) k R))
          case atStart => exact ⟨i, 1, L, rfl, rfl, Nat.le_refl _, by omega, by omega, rfl, hkd, HRD, HON⟩
          case round =>
            clear HRD HON hRk hkd HCA HCB
            obtain ⟨k, j, R, rfl, rfl, hj1, hjI, hkI, hg, hkw, hrow, hon⟩ := hrel
            have HG2 := Lib.hid hg
            have hj0 : (1 : Int) ≤ (j : Int) := by omega
            have hk0 : (0 : Int) ≤ (k : Int) := by omega
            have HRN := Lib.hid (show R.length = n by rw [hon.out.len, HLN.out])
            by_cases hjn : (j : Int) < ((n - i : Nat) : Int)
            · have hkd := hkw.trans (Kept.of_below (Below.refl _ wr).drew)
              have HRD := Lib.hid (hrow.out.below (Below.refl _ wr).drew)
              obtain ⟨x, hxe⟩ : ∃ x, x = R.getD (i + j) [] := ⟨_, rfl⟩
              obtain ⟨y, hye⟩ : ∃ y, y = R.getD (i + (j - 1)) [] := ⟨_, rfl⟩
              have HCA := Lib.hid (show wr.drew.rangeAt g (i * 32 + j * 32) (x.map B) by have := HRD.out.at_ (i + j) (by rw [HRN.out]; omega); rwa [Nat.add_mul, ← hxe] at this)
              have HCB := Lib.hid (show wr.drew.rangeAt g (i * 32 + (j - 1) * 32) (y.map B) by have := HRD.out.at_ (i + (j - 1)) (by rw [HRN.out]; omega); rwa [Nat.add_mul, ← hye] at this)
              have HX := Lib.hid (show x.length = 32 by rw [hxe]; exact getD_32 HRD.out.1 (by rw [HRN.out]; omega))
              have HY := Lib.hid (show y.length = 32 by rw [hye]; exact getD_32 HRD.out.1 (by rw [HRN.out]; omega))
              have HXE := Lib.hid (show x = L.getD (i + (j - 1) + 1) [] by rw [hxe, hon.out.read (i + j) (by omega), show i + (j - 1) + 1 = i + j from by omega])
              have HYE := Lib.hid (show y = L.getD (i + (j - 1)) [] by rw [hye, hon.out.read (i + (j - 1)) (by omega)])
              have HLT := Lib.hid (show i + (j - 1) + 1 < L.length by rw [HLN.out]; omega)
              have HTH := Lib.hid (show wr.drew.there g (k * 32) 32 from HRD.out.there_at k (by rw [HRN.out]; omega))
              have HKN := Lib.hid (show k < R.length by rw [HRN.out]; omega)
              have k1 : IntKind.i64.wrap ((j : Int) - 1) = (j : Int) - 1 := IntWalk.i64_in _ (by omega)
              have k2 : 0 ≤ (j : Int) - 1 := by omega
              have k3 : ((j : Int) - 1).toNat = j - 1 := by omega
              have k4 : (j : Int) - 1 < ((n - i : Nat) : Int) := by omega
              have k5 : j - 1 < n - i := by omega
              have HJ1 := Lib.hid hj1
              clear hg hj1 hkw hrow hxe hye
              go_wp2
              refine wp_region_still_lit (by kernel_rfl) (by kernel_rfl) ?_
              still_step
              still_step
              still_step
              refine still_w (by rfl) (exec_loadId _ rfl _ _ _ HX.out rfl HCA.out) ?_
              simp only [Act.put, List.setIfInBounds_toArray, List.set_cons_zero, List.set_cons_succ]
              still_step
              still_step
              still_step
              still_step
              refine still_w (by rfl) (exec_loadId _ rfl _ _ _ HY.out rfl HCB.out) ?_
              simp only [Act.put, List.setIfInBounds_toArray, List.set_cons_zero, List.set_cons_succ]
              refine still_w (by rfl) (exec_neqId _ _ _ rfl _ _ HX.out HY.out rfl rfl) ?_
              simp only [Act.put, List.setIfInBounds_toArray, List.set_cons_zero, List.set_cons_succ]
              refine wpStill_nil ?_
              change Exit.then _ _ _ _ wr.drew
              clear k1 k3
              generalize wr.drew = w2 at hkd HRD HCA HCB HTH ⊢
              by_cases he : x = y
              · have HN := Lib.hid (show Once L (i + (j + 1 - 1)) k R by
                  have h := hon.out.same HLT.out (by rw [← HXE.out, ← HYE.out, he])
                  rwa [show i + (j - 1) + 1 = i + (j + 1 - 1) from by have := HJ1.out; omega] at h)
                rw [decide_eq_true he, Bool.not_true]
                clear he
                go_wp2
                go_roundg (gk - 1)
                case measure => have := HG2.out; omega
                case rel => exact ⟨k, j + 1, R, rfl, by go_num, by omega, by omega, hkI, by have := HG2.out; omega, hkd, HRD, HN⟩
              · have HN := Lib.hid (show Once L (i + (j + 1 - 1)) (k + 1) (R.set k x) by
                  have h := hon.out.next HU.out HLT.out (by rw [← HXE.out, ← HYE.out]; exact he)
                  rwa [← HXE.out, show i + (j - 1) + 1 = i + (j + 1 - 1) from by have := HJ1.out; omega] at h)
                have HKP := Lib.hid (show (k : Int) + 1 < (n : Int) by have := HN.out.le; have := HN.out.lt; have := HLN.out; omega)
                have HRS := Lib.hid (HRD.out.store k HKN.out x HX.out)
                have HKS := Lib.hid (hkd.trans (Kept.setCells g (k * 32) (x.map B) w2))
                rw [decide_eq_false he, Bool.not_false]
                clear he hkd
                go_wp2_with (first
                  | (refine wl_load (by rfl) _ rfl g (i * 32 + j * 32) x HX.out rfl HCA.out ?_)
                  | (refine wl_store rfl _ _ rfl g (k * 32) x HX.out rfl rfl HTH.out ?_))
                go_roundg (gk - 1)
                case measure => have := HG2.out; omega
                case rel => exact ⟨k + 1, j + 1, R.set k x, by go_num, by go_num, by omega, by omega, by have := HKP.out; omega, by have := HG2.out; omega, HKS.out, HRS, HN⟩
            · have HE := Lib.hid (hon.out.end (by rw [HLN.out]; omega))
              have m1 : k ≤ n := by omega
              have m2 : k ≤ c := by omega
              have m3 : (c = k) = False := eq_false (by omega)
              have HTH := Lib.hid (show wr.there g (k * 32) ((n - k) * 32) from hrow.out.there_from k (n - k) (by rw [HRN.out]; omega))
              have HNK := Lib.hid (show 0 < n - k by omega)
              have HIA := Lib.hid (hrow.out.head_cleared k c (by rw [HRN.out]; omega) m2 HC.out.2 (flat (zeros (n - k))))
              have HKS := Lib.hid (hkw.trans (Kept.setCells g (k * 32) (flat (zeros (n - k))) wr))
              clear hg hj1 hkw hrow
              go_wp2_with (refine wl_clear rfl _ rfl g (k * 32) (n - k) (c - k) rfl HNK.out HTH.out ?_)
              go_ret
              exact MadeS.of HIA.out (HKS.out.below (Below.refl _ _) HB.out HBS.out) HE.out.1 HE.out.2
        · have HN := Lib.hid (set_next HU.out hset.out HI1.out HIL.out he)
          rw [decide_eq_false he]
          clear he
          go_wp2
          go_roundg (gk - 1)
          case measure => have := HG.out; omega
          case rel => exact ⟨i + 1, by go_num, by omega, by omega, by have := HG.out; omega, hkd, HRD, HN⟩
      · have HS := Lib.hid (show SetF L by have h := hset.out; rwa [List.take_of_length_le (by rw [HLN.out]; omega)] at h)
        have HI := Lib.hid (hrow.out.whole HLN.out HC.out.1 HC.out.2)
        clear hg hi1
        go_wp2
        go_ret
        exact MadeS.of HI.out (hkw.below (Below.refl _ _) HB.out HBS.out) HS.out (fun x => Iff.rfl)
#print axioms compact_any

set_option maxRecDepth 100000 in
set_option maxHeartbeats 400000 in
theorem sort_any (a : Option Addr) (n c : Nat) (l : List (List UInt8)) (w : World) (hb : IdsAt w a n c l) (hl : n ≤ 1000000000) :
    Calls Tryd.prog 62 #[.slice a n c] w (MadeRI w (sortF l)) := by
  have HS := Lib.hid (sorted_any a n c l w hb hl)
  clear hb hl
  unfold cmpV at HS
  go_enter Tryd.func62, Tryd.ntmps62
  go_wp2_with (go_at_call 72; go_must (refine HS.out.mono ?_); rintro e w1 ⟨a1, c1, rfl, hr⟩)
  go_ret
  exact ⟨a1, c1, rfl, hr⟩

theorem setF_sortF (l : List (List UInt8)) : setF (sortF l) = setF l := setF_of (setF_set _) (fun x => (setF_mem _ x).trans (sortF_perm l).mem_iff)

set_option maxRecDepth 100000 in
set_option maxHeartbeats 400000 in
theorem set_any (a : Option Addr) (n c : Nat) (l : List (List UInt8)) (w : World) (hb : IdsAt w a n c l) (hl : n ≤ 1000000000) :
    Calls Tryd.prog 52 #[.slice a n c] w (MadeS w.heap.size w (setF l)) := by
  have hlen : (sortF l).length ≤ 1000000000 := by rw [sortF_length, hb.1]; exact hl
  have HS := Lib.hid (sort_any a n c l w hb hl)
  have HL := Lib.hid hlen
  clear hb hl hlen
  go_enter Tryd.func52, Tryd.ntmps52
  go_wp2_with (first
    | (go_at_call 62; go_must (refine HS.out.mono ?_); rintro e w1 ⟨a1, c1, rfl, hi1, hb1, hr1⟩)
    | (go_at_call 61; go_must (refine (compact_any w.heap.size a1 _ c1 (sortF l) w1 hi1 hr1 (sortF_up l) HL.out hb1.size).mono ?_); rintro e w2 ⟨a2, c2, rfl, hi2, hb2⟩))
  go_ret
  rw [setF_sortF] at hi2 ⊢
  exact ⟨a2, c2, rfl, hi2, hb1.trans hb2⟩
#print axioms set_any
end Go.Proofs.YtkhcoefcifaaeaaDoor

namespace Go.Proofs.YtkhcoefcifaaeaaDoor
open Go.RowKit

/-- What Find answers. -/
def findIF (l : List (List UInt8)) (x : List UInt8) : Nat × Bool := if isSetF l = true then (aheadF l x, decide (x ∈ l)) else (0, false)
def FindIs (r : Nat × Bool) (w : World) (e : Ending) (w' : World) : Prop := e = .returned (.tuple #[.int .i64 r.1, .bool r.2]) ∧ Below w.heap.size w w'
theorem FindIs.mk {r : Nat × Bool} {z : Int} {b : Bool} {w w' : World} (h1 : z = (r.1 : Int)) (h2 : b = r.2) (hb : Below w.heap.size w w') : FindIs r w (.returned (.tuple #[.int .i64 z, .bool b])) w' := by
  subst h1 h2; exact ⟨rfl, hb⟩

theorem findF_no {l : List (List UInt8)} {x : List UInt8} (h : isSetF l = false) : findIF l x = (0, false) := by unfold findIF; rw [if_neg (by simp [h])]
theorem findF_yes {l : List (List UInt8)} {x : List UInt8} (h : isSetF l = true) : findIF l x = (aheadF l x, decide (x ∈ l)) := by unfold findIF; rw [if_pos h]

/-- All ahead of a place stand ahead; none from a place on does. -/
def Lows (l : List (List UInt8)) (x : List UInt8) (j : Nat) : Prop := ∀ i, i < j → cmpF (l.getD i []) x < 0
def Highs (l : List (List UInt8)) (x : List UInt8) (j : Nat) : Prop := ∀ i, j ≤ i → i < l.length → 0 ≤ cmpF (l.getD i []) x

theorem set_lt {l : List (List UInt8)} (h : SetF l) {i j : Nat} (hij : i < j) (hj : j < l.length) : cmpF (l.getD i []) (l.getD j []) < 0 := by
  have := List.pairwise_iff_getElem.1 h i j (by omega) hj hij
  simpa [show i < l.length by omega, hj] using this
theorem lows_of {l : List (List UInt8)} (h : SetF l) {x : List UInt8} {m : Nat} (hm : m < l.length) (hc : cmpF (l.getD m []) x < 0) : Lows l x (m + 1) := fun i hi => by
  rcases Nat.lt_or_ge i m with h1 | h1
  · exact cmpF_lt_trans (set_lt h h1 hm) hc
  · obtain rfl : i = m := by omega
    exact hc
theorem highs_of {l : List (List UInt8)} (h : SetF l) {x : List UInt8} {m : Nat} (hm : m < l.length) (hc : 0 ≤ cmpF (l.getD m []) x) : Highs l x m := fun i hi hil => by
  rcases Nat.lt_or_ge m i with h1 | h1
  · have h2 := set_lt h h1 hil
    rcases Int.lt_or_le (cmpF (l.getD i []) x) 0 with h3 | h3
    · have := cmpF_lt_trans h2 h3
      omega
    · exact h3
  · obtain rfl : i = m := by omega
    exact hc
theorem place_of {l : List (List UInt8)} {x : List UInt8} {j : Nat} (hj : j ≤ l.length) (h1 : Lows l x j) (h2 : Highs l x j) : aheadF l x = j :=
  (aheadF_of hj h1 (fun h => h2 j (Nat.le_refl _) h)).symm
theorem there_of {l : List (List UInt8)} (h : SetF l) {x : List UInt8} {j : Nat} (hp : aheadF l x = j) (hj : j < l.length) : decide (x ∈ l) = decide (l.getD j [] = x) := by
  rw [decide_eq_decide, mem_at h x, hp]
  exact ⟨fun h => h.2, fun h => ⟨hj, h⟩⟩
theorem none_ofI {l : List (List UInt8)} (h : SetF l) {x : List UInt8} {j : Nat} (hp : aheadF l x = j) (hj : l.length ≤ j) : decide (x ∈ l) = false := by
  rw [decide_eq_false_iff_not, mem_at h x, hp]
  omega

end Go.Proofs.YtkhcoefcifaaeaaDoor

namespace Go.Proofs.YtkhcoefcifaaeaaDoor
open Go.RowKit

/-- Which of two numbers stands ahead. -/
def intF (a b : Int) : Int := if a < b then -1 else if b < a then 1 else 0

/-- The first of three that is not 0. -/
def orF (x y z : Int) : Int := if x ≠ 0 then x else if y ≠ 0 then y else z

end Go.Proofs.YtkhcoefcifaaeaaDoor

namespace Go.Proofs.YtkhcoefcifaaeaaDoor
open Go.RowKit

/-- A key's cells. -/
def keyL (k : KeyV) : List Value := .int .i64 k.t :: (k.c.map B ++ [.int .i64 k.i])
def keyC (k : KeyV) : Array Value := (keyL k).toArray
theorem keyL_length {k : KeyV} (h : k.c.length = 32) : (keyL k).length = 34 := by simp [keyL, h]

def KeyIs (a b : KeyV) (w : World) (e : Ending) (w' : World) : Prop := e = .returned (.int .i64 (keyF a b)) ∧ Below w.heap.size w w'

theorem keyF_or (a b : KeyV) : keyF a b = orF (intF a.t b.t) (cmpF a.c b.c) (intF a.i b.i) := by
  unfold keyF orF intF
  repeat' split
  all_goals first | rfl | omega | simp_all

end Go.Proofs.YtkhcoefcifaaeaaDoor

namespace Go.Proofs.YtkhcoefcifaaeaaDoor
open Go.RowKit

theorem cells3 (w : World) (x y z : Int) : (w.alloc (.cells #[.int .i64 x, .int .i64 y, .int .i64 z] 3)).cell? ⟨w.heap.size, 0, none⟩ = some (.int .i64 x) ∧ (w.alloc (.cells #[.int .i64 x, .int .i64 y, .int .i64 z] 3)).cell? ⟨w.heap.size, 1, none⟩ = some (.int .i64 y) ∧ (w.alloc (.cells #[.int .i64 x, .int .i64 y, .int .i64 z] 3)).cell? ⟨w.heap.size, 2, none⟩ = some (.int .i64 z) :=
  ⟨by simp, by simp, by simp⟩

end Go.Proofs.YtkhcoefcifaaeaaDoor

namespace Go.Proofs.YtkhcoefcifaaeaaDoor
open Go.RowKit

def idN (x : UInt8) : List UInt8 := x :: List.replicate 31 0
theorem idN_length (x : UInt8) : (idN x).length = 32 := rfl

theorem build_1 (w : World) : (Instr.build 24 #[(0, .int .u8 1)]).run Tryd.prog w = .ok (.agg (idCells (idN 1))) w := by kernel_rfl
theorem build_2 (w : World) : (Instr.build 24 #[(0, .int .u8 2)]).run Tryd.prog w = .ok (.agg (idCells (idN 2))) w := by kernel_rfl
theorem build_3 (w : World) : (Instr.build 24 #[(0, .int .u8 3)]).run Tryd.prog w = .ok (.agg (idCells (idN 3))) w := by kernel_rfl
theorem wl_build {w : World} {ops : Array Oper} {rest : List Oper} {o : Oper} {a : Act} {Q : Exit → Act → World → Prop} (z : Int) (x : UInt8) (hr : ∀ w, (Instr.build 24 #[(0, .int .u8 z)]).run Tryd.prog w = .ok (.agg (idCells (idN x))) w) (hgd : o.guard = none) (ho : o.op = .build 24 #[(0, .const (.int .u8 z))])
    (h : wpList Tryd.prog ops Q rest (a.put o.dst (.agg (idCells (idN x)))) w) : wpList Tryd.prog ops Q (o :: rest) a w := by
  refine wpList_ok hgd ?_ h
  unfold execOp
  simp only [ho, List.map_toArray, List.map_cons, List.map_nil, Act.eval, Sem.run_bind, Sem.run_pure, hr, Result.andThen_ok]

/-- A slice built of ids. -/
theorem ids_built (w : World) (L : List (List UInt8)) (h : W32 L) (n : Nat) (hl : L.length = n) (hn : n ≤ 1000) : IdsAt (w.alloc (.cells (flat L).toArray 24)) (some ⟨w.heap.size, 0, none⟩) n n L := by
  refine ⟨hl, Nat.le_refl _, by omega, h, .inr ⟨w.heap.size, 0, rfl, fun j v hv => ?_⟩⟩
  rw [Nat.zero_add, cell_of_row _ _ j _ _ (0, 0) (heap_alloc_new w _)]
  simpa using hv
theorem run_13 (w : World) : (Instr.buildSlice 39 2 #[(0, .agg (idCells (idN 1))), (1, .agg (idCells (idN 3)))]).run Tryd.prog w = .ok (.slice (some ⟨w.heap.size, 0, none⟩) 2 2) (w.alloc (.cells (flat [idN 1, idN 3]).toArray 24)) := by kernel_rfl
theorem run_12 (w : World) : (Instr.buildSlice 39 2 #[(0, .agg (idCells (idN 1))), (1, .agg (idCells (idN 2)))]).run Tryd.prog w = .ok (.slice (some ⟨w.heap.size, 0, none⟩) 2 2) (w.alloc (.cells (flat [idN 1, idN 2]).toArray 24)) := by kernel_rfl
theorem run_212 (w : World) : (Instr.buildSlice 39 3 #[(0, .agg (idCells (idN 2))), (1, .agg (idCells (idN 1))), (2, .agg (idCells (idN 2)))]).run Tryd.prog w = .ok (.slice (some ⟨w.heap.size, 0, none⟩) 3 3) (w.alloc (.cells (flat [idN 2, idN 1, idN 2]).toArray 24)) := by kernel_rfl

theorem exec_two {w w' : World} {v : Value} {o : Oper} {a : Act} (x y : Operand) (X Y : Value) (ho : o.op = .buildSlice 39 2 #[(0, x), (1, y)]) (hx : a.eval x = X) (hy : a.eval y = Y)
    (hr : (Instr.buildSlice 39 2 #[(0, X), (1, Y)]).run Tryd.prog w = .ok v w') : (execOp a.eval o).run Tryd.prog w = .ok (.value v) w' := by
  unfold execOp
  simp only [ho, List.map_toArray, List.map_cons, List.map_nil, hx, hy, Sem.run_bind, Sem.run_pure, hr, Result.andThen_ok]
theorem exec_three {w w' : World} {v : Value} {o : Oper} {a : Act} (x y z : Operand) (X Y Z : Value) (ho : o.op = .buildSlice 39 3 #[(0, x), (1, y), (2, z)]) (hx : a.eval x = X) (hy : a.eval y = Y) (hz : a.eval z = Z)
    (hr : (Instr.buildSlice 39 3 #[(0, X), (1, Y), (2, Z)]).run Tryd.prog w = .ok v w') : (execOp a.eval o).run Tryd.prog w = .ok (.value v) w' := by
  unfold execOp
  simp only [ho, List.map_toArray, List.map_cons, List.map_nil, hx, hy, hz, Sem.run_bind, Sem.run_pure, hr, Result.andThen_ok]

theorem exec_step {w w' : World} {ops : Array Oper} {o : Oper} {a : Act} {K : Act → World → Prop} {Q : Exit → Act → World → Prop} {v : Value} (hr : (execOp a.eval o).run Tryd.prog w = .ok (.value v) w') (h : K (a.put o.dst v) w') (hgd : o.guard = none := by rfl) :
    if Region.wanted o (yielded ops a.tmps) = true then o.wp Tryd.prog a w K Q else K (a.put o.dst undef) w := by
  rw [if_pos (by unfold Region.wanted; rw [hgd])]
  unfold Oper.wp
  rw [hr]
  exact h

theorem find_132 : findIF [idN 1, idN 3] (idN 2) = (1, false) := by decide +kernel
theorem cmp_12 : cmpF (idN 1) (idN 2) = -1 := by decide +kernel
theorem set_212 : setF [idN 2, idN 1, idN 2] = [idN 1, idN 2] :=
  (setF_of (m := [idN 1, idN 2]) (l := [idN 2, idN 1, idN 2]) (by simp [SetF, cmp_12]) (fun x => by simp only [List.mem_cons, List.not_mem_nil, or_false]; exact ⟨fun h => Or.inr h, fun h => h.elim Or.inr id⟩)).symm
def k2 : KeyV := ⟨2, idZero, 0⟩
def k1 : KeyV := ⟨1, idZero, 0⟩
theorem key_21 : keyF k2 k1 = 1 := by decide +kernel
theorem W_13 : W32 [idN 1, idN 3] := fun x hx => by simp at hx; rcases hx with rfl | rfl <;> rfl
theorem W_12 : W32 [idN 1, idN 2] := fun x hx => by simp at hx; rcases hx with rfl | rfl <;> rfl
theorem W_212 : W32 [idN 2, idN 1, idN 2] := fun x hx => by simp at hx; rcases hx with rfl | rfl | rfl <;> rfl
theorem idAt_ne {w w' : World} {g k : Nat} {l : List UInt8} (h : IdAt w g l) (hg : w.grownBy w' (some k)) (hne : g ≠ k) : IdAt w' g l := h.grown hg (fun e => hne (Option.some.inj e))
theorem set_is (W : World) (g : Nat) (h : IdsAt W (some ⟨g, 0, none⟩) 3 3 [idN 2, idN 1, idN 2]) : Calls Tryd.prog 52 #[.slice (some ⟨g, 0, none⟩) 3 3] W fun e w' => ∃ a c, e = .returned (.slice a 2 c) ∧ IdsAt w' a 2 c [idN 1, idN 2] ∧ Below W.heap.size W w' := by
  have := set_any _ 3 3 _ W h (by omega)
  rw [set_212] at this
  exact this
theorem same_is (W : World) (a b : Option Addr) (c d : Nat) (h : IdsAt W a 2 c [idN 1, idN 2]) (k : IdsAt W b 2 d [idN 1, idN 2]) : Calls Tryd.prog 9 #[.slice a 2 c, .slice b 2 d] W fun e w' => e = .returned (.bool true) ∧ Below W.heap.size W w' := by
  have := same_any a 2 c _ b 2 d _ W h k (by omega)
  rw [decide_eq_true rfl] at this
  exact this
theorem cmp_is12 (W : World) : Calls Tryd.prog 53 #[.agg (idCells (idN 1)), .agg (idCells (idN 2))] W fun e w' => e = .returned (.int .i64 (-1)) ∧ Below W.heap.size W w' := cmp_is _ _ (-1) W rfl rfl cmp_12.symm
end Go.Proofs.YtkhcoefcifaaeaaDoor
