/-
  Merged: IdSet, IdOne.
-/
import Derived.Test.YtkhcoefcifaaeaaDoorGrp13
import Derived.Test.YtkhcoefcifaaeaaDoorIdSort
import Derived.Great.BuildSlice
namespace Go.Proofs.YtkhcoefcifaaeaaDoor
open Go.RowKit

/-- A slice that reads as these ids; from a block on, all may be new. -/
def MadeS (base : Nat) (w : World) (L : List (List UInt8)) (e : Ending) (w' : World) : Prop := ∃ a c, e = .returned (.slice a L.length c) ∧ IdsAt w' a L.length c L ∧ Below base w w'
theorem MadeS.of {base n c : Nat} {w w' : World} {L M : List (List UInt8)} {a : Option Addr} (h : IdsAt w' a n c M) (hb : Below base w w') (hs : SetF M) (hm : ∀ x, x ∈ M ↔ x ∈ L) : MadeS base w (setF L) (.returned (.slice a n c)) w' := by
  obtain rfl := setF_of hs hm
  have := h.1
  subst this
  exact ⟨a, c, rfl, h, hb⟩

set_option maxRecDepth 100000 in
set_option maxHeartbeats 4000000 in
theorem compact_any (base : Nat) (a : Option Addr) (n c : Nat) (L : List (List UInt8)) (w : World) (hI : IdsAt w a n c L) (hr : 0 < n → ∃ g, a = some ⟨g, 0, none⟩ ∧ base ≤ g ∧ RowC w g L) (hu : Up L) (hn : n ≤ 1000000000) (hbase : base ≤ w.heap.size) :
    Calls Tryd.prog 61 #[.slice a n c] w (MadeS base w (setF L)) := by
  have HLN := Lib.hid hI.1
  have HU := Lib.hid hu
  have hnI : (n : Int) ≤ 1000000000 := by omega
  by_cases h2 : (n : Int) < 2
  · have HI := Lib.hid hI
    have HS := Lib.hid (show SetF L by
      have h1 := hI.1
      rcases L with _ | ⟨x, _ | ⟨y, T⟩⟩
      · simp [SetF]
      · simp [SetF]
      · simp at h1; omega)
    clear hI hr hu hbase
    go_enter Tryd.func61, Tryd.ntmps61
    go_wp2
    go_ret
    exact MadeS.of HI.out (Below.refl _ _) HS.out (fun x => Iff.rfl)
  · obtain ⟨g, rfl, hbg, hrow⟩ := hr (by omega)
    have HB := Lib.hid hbg
    have HBS := Lib.hid hbase
    have HR := Lib.hid hrow
    have hcn : (n : Int) ≤ (c : Int) := by have := hI.2.1; omega
    have hcm : (c : Int) ≤ 9223372036854775807 := by have := hI.2.2.1; omega
    have HC := Lib.hid (And.intro hI.2.1 hI.2.2.1)
    have HO := Lib.hid (show SetF (L.take 1) from one_set (by have := hI.1; omega))
    clear hI hr hu hbase hbg hrow
    go_enter Tryd.func61, Tryd.ntmps61
    go_wp2
    go_loopg [3] n (fun gg v3 W => ∃ i : Nat, v3 = .int .i64 i ∧ 1 ≤ i ∧ (i : Int) ≤ (n : Int) ∧ gg + i = n + 1 ∧ Kept g w W ∧ Hid (RowC W g L) ∧ Hid (SetF (L.take i)))
    case atStart => exact ⟨1, rfl, Nat.le_refl _, by omega, rfl, Kept.refl _ _, HR, HO⟩
    case round =>
      clear HR HO
      obtain ⟨i, rfl, hi1, hiI, hg, hkw, hrow, hset⟩ := hrel
      have HG := Lib.hid hg
      have hi0 : (1 : Int) ≤ (i : Int) := by omega
      by_cases hin : (i : Int) < (n : Int)
      · have hkd := hkw.trans (Kept.of_below (Below.refl _ wr).drew)
        have HRD := Lib.hid (hrow.out.below (Below.refl _ wr).drew)
        have HCA := Lib.hid (HRD.out.at_ i (by rw [HLN.out]; omega))
        have HCB := Lib.hid (HRD.out.at_ (i - 1) (by rw [HLN.out]; omega))
        have HX := Lib.hid (getD_32 HRD.out.1 (i := i) (by rw [HLN.out]; omega))
        have HY := Lib.hid (getD_32 HRD.out.1 (i := i - 1) (by rw [HLN.out]; omega))
        have HIL := Lib.hid (show i < L.length by rw [HLN.out]; omega)
        have k1 : IntKind.i64.wrap ((i : Int) - 1) = (i : Int) - 1 := IntWalk.i64_in _ (by omega)
        have k2 : 0 ≤ (i : Int) - 1 := by omega
        have k3 : ((i : Int) - 1).toNat = i - 1 := by omega
        have k4 : (i : Int) - 1 < (n : Int) := by omega
        have k5 : i - 1 < n := by omega
        have HI1 := Lib.hid hi1
        clear hg hi1 hkw hrow
        go_wp2
        refine wp_region_still_lit (by kernel_rfl) (by kernel_rfl) ?_
        still_step
        still_step
        still_step
        refine still_w (by rfl) (exec_loadId _ rfl _ _ _ HX.out rfl HCA.out) ?_
        simp only [Act.put, List.setIfInBounds_toArray, List.set_cons_zero, List.set_cons_succ]
        still_step
        still_step
        still_step
        still_step
        refine still_w (by rfl) (exec_loadId _ rfl _ _ _ HY.out rfl HCB.out) ?_
        simp only [Act.put, List.setIfInBounds_toArray, List.set_cons_zero, List.set_cons_succ]
        refine still_w (by rfl) (exec_eqlId _ _ _ rfl _ _ HX.out HY.out rfl rfl) ?_
        simp only [Act.put, List.setIfInBounds_toArray, List.set_cons_zero, List.set_cons_succ]
        refine wpStill_nil ?_
        change Exit.then _ _ _ _ wr.drew
        clear k1 k3
        generalize wr.drew = w2 at hkd HRD HCA HCB ⊢
        by_cases he : L.getD i [] = L.getD (i - 1) []
        · have HON := Lib.hid (Once.start hset.out HI1.out HIL.out he)
          rw [decide_eq_true he]
          clear he hset
          have j1 : i ≤ n := by omega
          have j2 : n ≤ c := HC.out.1
          have j3 : (c = i) = False := eq_false (by omega)
          have hRk := HRD
          go_wp2
          go_loopg [3, 5] n (fun gg v3 v5 W => ∃ (k j : Nat) (R : List (List UInt8)), v3 = .int .i64 k ∧ v5 = .int .i64 j ∧ 1 ≤ j ∧ (j : Int) ≤ ((n - i : Nat) : Int) ∧ (k : Int) < (n : Int) ∧ gg + j = n + 1 ∧ Kept g w W ∧ Hid (RowC W g R) ∧ Hid (Once L (i + (j - 1)) k R))
          case atStart => exact ⟨i, 1, L, rfl, rfl, Nat.le_refl _, by omega, by omega, rfl, hkd, HRD, HON⟩
          case round =>
            clear HRD HON hRk hkd HCA HCB
            obtain ⟨k, j, R, rfl, rfl, hj1, hjI, hkI, hg, hkw, hrow, hon⟩ := hrel
            have HG2 := Lib.hid hg
            have hj0 : (1 : Int) ≤ (j : Int) := by omega
            have hk0 : (0 : Int) ≤ (k : Int) := by omega
            have HRN := Lib.hid (show R.length = n by rw [hon.out.len, HLN.out])
            by_cases hjn : (j : Int) < ((n - i : Nat) : Int)
            · have hkd := hkw.trans (Kept.of_below (Below.refl _ wr).drew)
              have HRD := Lib.hid (hrow.out.below (Below.refl _ wr).drew)
              obtain ⟨x, hxe⟩ : ∃ x, x = R.getD (i + j) [] := ⟨_, rfl⟩
              obtain ⟨y, hye⟩ : ∃ y, y = R.getD (i + (j - 1)) [] := ⟨_, rfl⟩
              have HCA := Lib.hid (show wr.drew.rangeAt g (i * 32 + j * 32) (x.map B) by have := HRD.out.at_ (i + j) (by rw [HRN.out]; omega); rwa [Nat.add_mul, ← hxe] at this)
              have HCB := Lib.hid (show wr.drew.rangeAt g (i * 32 + (j - 1) * 32) (y.map B) by have := HRD.out.at_ (i + (j - 1)) (by rw [HRN.out]; omega); rwa [Nat.add_mul, ← hye] at this)
              have HX := Lib.hid (show x.length = 32 by rw [hxe]; exact getD_32 HRD.out.1 (by rw [HRN.out]; omega))
              have HY := Lib.hid (show y.length = 32 by rw [hye]; exact getD_32 HRD.out.1 (by rw [HRN.out]; omega))
              have HXE := Lib.hid (show x = L.getD (i + (j - 1) + 1) [] by rw [hxe, hon.out.read (i + j) (by omega), show i + (j - 1) + 1 = i + j from by omega])
              have HYE := Lib.hid (show y = L.getD (i + (j - 1)) [] by rw [hye, hon.out.read (i + (j - 1)) (by omega)])
              have HLT := Lib.hid (show i + (j - 1) + 1 < L.length by rw [HLN.out]; omega)
              have HTH := Lib.hid (show wr.drew.there g (k * 32) 32 from HRD.out.there_at k (by rw [HRN.out]; omega))
              have HKN := Lib.hid (show k < R.length by rw [HRN.out]; omega)
              have k1 : IntKind.i64.wrap ((j : Int) - 1) = (j : Int) - 1 := IntWalk.i64_in _ (by omega)
              have k2 : 0 ≤ (j : Int) - 1 := by omega
              have k3 : ((j : Int) - 1).toNat = j - 1 := by omega
              have k4 : (j : Int) - 1 < ((n - i : Nat) : Int) := by omega
              have k5 : j - 1 < n - i := by omega
              have HJ1 := Lib.hid hj1
              clear hg hj1 hkw hrow hxe hye
              go_wp2
              refine wp_region_still_lit (by kernel_rfl) (by kernel_rfl) ?_
              still_step
              still_step
              still_step
              refine still_w (by rfl) (exec_loadId _ rfl _ _ _ HX.out rfl HCA.out) ?_
              simp only [Act.put, List.setIfInBounds_toArray, List.set_cons_zero, List.set_cons_succ]
              still_step
              still_step
              still_step
              still_step
              refine still_w (by rfl) (exec_loadId _ rfl _ _ _ HY.out rfl HCB.out) ?_
              simp only [Act.put, List.setIfInBounds_toArray, List.set_cons_zero, List.set_cons_succ]
              refine still_w (by rfl) (exec_neqId _ _ _ rfl _ _ HX.out HY.out rfl rfl) ?_
              simp only [Act.put, List.setIfInBounds_toArray, List.set_cons_zero, List.set_cons_succ]
              refine wpStill_nil ?_
              change Exit.then _ _ _ _ wr.drew
              clear k1 k3
              generalize wr.drew = w2 at hkd HRD HCA HCB HTH ⊢
              by_cases he : x = y
              · have HN := Lib.hid (show Once L (i + (j + 1 - 1)) k R by
                  have h := hon.out.same HLT.out (by rw [← HXE.out, ← HYE.out, he])
                  rwa [show i + (j - 1) + 1 = i + (j + 1 - 1) from by have := HJ1.out; omega] at h)
                rw [decide_eq_true he, Bool.not_true]
                clear he
                go_wp2
                go_roundg (gk - 1)
                case measure => have := HG2.out; omega
                case rel => exact ⟨k, j + 1, R, rfl, by go_num, by omega, by omega, hkI, by have := HG2.out; omega, hkd, HRD, HN⟩
              · have HN := Lib.hid (show Once L (i + (j + 1 - 1)) (k + 1) (R.set k x) by
                  have h := hon.out.next HU.out HLT.out (by rw [← HXE.out, ← HYE.out]; exact he)
                  rwa [← HXE.out, show i + (j - 1) + 1 = i + (j + 1 - 1) from by have := HJ1.out; omega] at h)
                have HKP := Lib.hid (show (k : Int) + 1 < (n : Int) by have := HN.out.le; have := HN.out.lt; have := HLN.out; omega)
                have HRS := Lib.hid (HRD.out.store k HKN.out x HX.out)
                have HKS := Lib.hid (hkd.trans (Kept.setCells g (k * 32) (x.map B) w2))
                rw [decide_eq_false he, Bool.not_false]
                clear he hkd
                go_wp2_with (first
                  | (refine wl_load (by rfl) _ rfl g (i * 32 + j * 32) x HX.out rfl HCA.out ?_)
                  | (refine wl_store rfl _ _ rfl g (k * 32) x HX.out rfl rfl HTH.out ?_))
                go_roundg (gk - 1)
                case measure => have := HG2.out; omega
                case rel => exact ⟨k + 1, j + 1, R.set k x, by go_num, by go_num, by omega, by omega, by have := HKP.out; omega, by have := HG2.out; omega, HKS.out, HRS, HN⟩
            · have HE := Lib.hid (hon.out.end (by rw [HLN.out]; omega))
              have m1 : k ≤ n := by omega
              have m2 : k ≤ c := by omega
              have m3 : (c = k) = False := eq_false (by omega)
              have HTH := Lib.hid (show wr.there g (k * 32) ((n - k) * 32) from hrow.out.there_from k (n - k) (by rw [HRN.out]; omega))
              have HNK := Lib.hid (show 0 < n - k by omega)
              have HIA := Lib.hid (hrow.out.head_cleared k c (by rw [HRN.out]; omega) m2 HC.out.2 (flat (zeros (n - k))))
              have HKS := Lib.hid (hkw.trans (Kept.setCells g (k * 32) (flat (zeros (n - k))) wr))
              clear hg hj1 hkw hrow
              go_wp2_with (refine wl_clear rfl _ rfl g (k * 32) (n - k) (c - k) rfl HNK.out HTH.out ?_)
              go_ret
              exact MadeS.of HIA.out (HKS.out.below (Below.refl _ _) HB.out HBS.out) HE.out.1 HE.out.2
        · have HN := Lib.hid (set_next HU.out hset.out HI1.out HIL.out he)
          rw [decide_eq_false he]
          clear he
          go_wp2
          go_roundg (gk - 1)
          case measure => have := HG.out; omega
          case rel => exact ⟨i + 1, by go_num, by omega, by omega, by have := HG.out; omega, hkd, HRD, HN⟩
      · have HS := Lib.hid (show SetF L by have h := hset.out; rwa [List.take_of_length_le (by rw [HLN.out]; omega)] at h)
        have HI := Lib.hid (hrow.out.whole HLN.out HC.out.1 HC.out.2)
        clear hg hi1
        go_wp2
        go_ret
        exact MadeS.of HI.out (hkw.below (Below.refl _ _) HB.out HBS.out) HS.out (fun x => Iff.rfl)
#print axioms compact_any

set_option maxRecDepth 100000 in
set_option maxHeartbeats 400000 in
theorem sort_any (a : Option Addr) (n c : Nat) (l : List (List UInt8)) (w : World) (hb : IdsAt w a n c l) (hl : n ≤ 1000000000) :
    Calls Tryd.prog 62 #[.slice a n c] w (MadeRI w (sortF l)) := by
  have HS := Lib.hid (sorted_any a n c l w hb hl)
  clear hb hl
  unfold cmpV at HS
  go_enter Tryd.func62, Tryd.ntmps62
  go_wp2_with (go_at_call 72; go_must (refine HS.out.mono ?_); rintro e w1 ⟨a1, c1, rfl, hr⟩)
  go_ret
  exact ⟨a1, c1, rfl, hr⟩

theorem setF_sortF (l : List (List UInt8)) : setF (sortF l) = setF l := setF_of (setF_set _) (fun x => (setF_mem _ x).trans (sortF_perm l).mem_iff)

set_option maxRecDepth 100000 in
set_option maxHeartbeats 400000 in
theorem set_any (a : Option Addr) (n c : Nat) (l : List (List UInt8)) (w : World) (hb : IdsAt w a n c l) (hl : n ≤ 1000000000) :
    Calls Tryd.prog 52 #[.slice a n c] w (MadeS w.heap.size w (setF l)) := by
  have hlen : (sortF l).length ≤ 1000000000 := by rw [sortF_length, hb.1]; exact hl
  have HS := Lib.hid (sort_any a n c l w hb hl)
  have HL := Lib.hid hlen
  clear hb hl hlen
  go_enter Tryd.func52, Tryd.ntmps52
  go_wp2_with (first
    | (go_at_call 62; go_must (refine HS.out.mono ?_); rintro e w1 ⟨a1, c1, rfl, hi1, hb1, hr1⟩)
    | (go_at_call 61; go_must (refine (compact_any w.heap.size a1 _ c1 (sortF l) w1 hi1 hr1 (sortF_up l) HL.out hb1.size).mono ?_); rintro e w2 ⟨a2, c2, rfl, hi2, hb2⟩))
  go_ret
  rw [setF_sortF] at hi2 ⊢
  exact ⟨a2, c2, rfl, hi2, hb1.trans hb2⟩
#print axioms set_any
end Go.Proofs.YtkhcoefcifaaeaaDoor

namespace Go.Proofs.YtkhcoefcifaaeaaDoor
open Go.RowKit

theorem run_one (w : World) {x : List UInt8} (hx : x.length = 32) : (Instr.buildSlice 39 1 #[(0, .agg (idCells x))]).run Tryd.prog w = .ok (.slice (some ⟨w.heap.size, 0, none⟩) 1 1) (w.alloc (.cells (idCells x) 24)) := by
  obtain ⟨i0, hi, hz0, hz1, hz2⟩ := info_parts Tryd.infoI24
  obtain ⟨r, h1, h2, h3⟩ := Great.fill_dense (s := 32) (by omega) [.agg (idCells x)] 0 ((Array.range (1 * 32)).map ((Value.agg (idCells idZero)).cells[· % (Value.agg (idCells idZero)).cells.size]!)) (fun v hv => by
    simp only [List.mem_singleton] at hv; subst hv; exact idCells_size hx) (by simp)
  have e : r = idCells x := by
    apply Array.ext_getElem?
    intro k
    rw [h3 k]
    by_cases hk : k < 32
    · rw [if_pos (by simp; omega), show k / 32 - 0 = 0 from by omega, Nat.mod_eq_of_lt hk]; rfl
    · rw [if_neg (by simp; omega), Array.getElem?_eq_none (by simp; omega), Array.getElem?_eq_none (by rw [idCells_size hx]; omega)]
  refine run_buildSlice w _ _ 1 _ (idCells x) i0 _ Tryd.underlying39 hi hz0 (by rw [hz1]; omega) (by rw [hz1]; omega) ?_
  rw [hz1]
  rw [e] at h1
  exact h1

theorem wl_one {w : World} {ops : Array Oper} {rest : List Oper} {o : Oper} {a : Act} {Q : Exit → Act → World → Prop} (hgd : o.guard = none) (x : Operand) (ho : o.op = .buildSlice 39 1 #[(0, x)])
    (l : List UInt8) (hl : l.length = 32) (hx : a.eval x = .agg (idCells l))
    (h : wpList Tryd.prog ops Q rest (a.put o.dst (.slice (some ⟨w.heap.size, 0, none⟩) 1 1)) (w.alloc (.cells (idCells l) 24))) : wpList Tryd.prog ops Q (o :: rest) a w := by
  refine wpList_ok hgd ?_ h
  unfold execOp
  simp only [ho, List.map_toArray, List.map_cons, List.map_nil, hx, Sem.run_bind, run_one w hl, Result.andThen_ok, Sem.run_pure]

theorem ids_new (w : World) {x : List UInt8} (hx : x.length = 32) : IdsAt (w.alloc (.cells (idCells x) 24)) (some ⟨w.heap.size, 0, none⟩) 1 1 [x] :=
  ⟨rfl, Nat.le_refl _, by omega, (fun y hy => by simp only [List.mem_singleton] at hy; subst hy; exact hx), .inr ⟨_, 0, rfl, by
    have h := (idAt_new w x hx).range
    have e : flat [x] = x.map B := by simp [flat]
    rwa [e]⟩⟩

/-- What one more comes to, behind what the call owns. -/
def MoreI (base : Nat) (w : World) (L : List (List UInt8)) (v' : Value) (w' : World) : Prop := ∃ g c, v' = .slice (some ⟨g, 0, none⟩) L.length c ∧ base ≤ g ∧ OwnI w' base v' L ∧ Below base w w'

theorem more_of {base : Nat} {w w1 w' : World} {v v' : Value} {L : List (List UInt8)} (h : OwnI w' base v' L) (hp : 0 < L.length) (hb : Below base w w1) (hg : w1.grownBy w' v.ownBlock) (hv : ∀ k, v.ownBlock = some k → base ≤ k) (hs : base ≤ w1.heap.size) : MoreI base w L v' w' := by
  obtain ⟨a, c, rfl, _⟩ := h.ids
  obtain ⟨g, rfl, hgb, _⟩ := h.row hp
  exact ⟨g, c, rfl, hgb, h, hb.grown hg hs hv⟩

end Go.Proofs.YtkhcoefcifaaeaaDoor
