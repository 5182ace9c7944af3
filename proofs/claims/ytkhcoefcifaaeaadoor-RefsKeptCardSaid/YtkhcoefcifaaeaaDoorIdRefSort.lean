/-
  The walk of the document's Sort: one more put where it belongs.
-/
import Derived.Test.YtkhcoefcifaaeaaDoorGrp14
import Derived.Test.YtkhcoefcifaaeaaDoorIdMerge
import Derived.Test.YtkhcoefcifaaeaaDoorGrp15
import Derived.Test.YtkhcoefcifaaeaaDoorGrp16
import Derived.Great.BuildSlice
namespace Go.Proofs.YtkhcoefcifaaeaaDoor
open Go.RowKit

set_option maxRecDepth 100000 in
set_option maxHeartbeats 4000000 in
theorem refSort_any (a : Option Addr) (n c : Nat) (l : List (List UInt8)) (w : World) (hb : IdsAt w a n c l) (hl : n ≤ 1000000000) :
    Calls Tryd.prog 58 #[.slice a n c] w (MadeI w (sortF l)) := by
  have HA := Lib.hid hb
  have HLN := Lib.hid hb.1
  have hnI : (n : Int) ≤ 1000000000 := by omega
  have hn0 : (0 : Int) ≤ (n : Int) := by omega
  have HO := Lib.hid (OwnI.nil w w.heap.size)
  have HUP := Lib.hid (show Up [] ∧ ([] : List (List UInt8)).Perm (l.take 0) from ⟨List.Pairwise.nil, List.Perm.refl _⟩)
  clear hb hl
  go_enter Tryd.func58, Tryd.ntmps58
  go_wp2
  go_loopg [3, 4] n (fun g v3 v4 W => ∃ (i : Nat) (S : List (List UInt8)) (aS : Option Addr) (cS : Nat), v3 = .slice aS i cS ∧ v4 = .int .i64 i ∧ g + i = n ∧ Below w.heap.size w W ∧ Hid (OwnI W w.heap.size (.slice aS i cS) S) ∧ Hid (S.length = i) ∧ Hid (Up S ∧ S.Perm (l.take i)))
  case atStart => exact ⟨0, [], none, 0, rfl, rfl, rfl, Below.refl _ _, HO, Lib.hid rfl, HUP⟩
  case round =>
    clear HO HUP
    obtain ⟨i, S, aS, cS, rfl, rfl, hg, hbw, HOW, HSL, HUP⟩ := hrel
    have HG := Lib.hid hg
    have hi0 : (0 : Int) ≤ (i : Int) := by omega
    have hiI : (i : Int) ≤ (n : Int) := by omega
    by_cases hi : (i : Int) < (n : Int)
    · obtain ⟨ba, oa, rfl⟩ := HA.out.some_ (by omega)
      obtain ⟨x, hx⟩ : ∃ x, x = l.getD i [] := ⟨_, rfl⟩
      have HXE := Lib.hid hx
      have HX := Lib.hid (show x.length = 32 by rw [hx]; exact getD_32 HA.out.2.2.2.1 (by rw [HLN.out]; omega))
      have HCA := Lib.hid (show wr.rangeAt ba (oa + i * 32) (x.map B) by have := (HA.out.below hbw).at_ i (by omega); rwa [← hx] at this)
      have HIN := Lib.hid (show i < n by omega)
      have HBS := Lib.hid hbw.size
      have HOWA := Lib.hid (HOW.out.alloc (.cells (idCells x) 24))
      have HIDS := Lib.hid (ids_new wr HX.out)
      have H48 := Lib.hid (show (S.length + 1) * 32 ≤ 140737488355328 by rw [HSL.out]; have := HIN.out; omega)
      have HBA := Lib.hid (show w.heap.size ≤ (wr.alloc (.cells (idCells x) 24)).heap.size by have := HBS.out; simp; omega)
      clear hg hx
      go_wp2_with (first
        | ((with_reducible show wpList _ _ _ (⟨some 18, _, _, _, _, _⟩ :: _) _ _); refine wl_load (wanted_plain rfl) _ rfl ba (oa + i * 32) x HX.out rfl HCA.out ?_)
        | ((with_reducible show wpList _ _ _ (⟨some 19, _, _, _, _, _⟩ :: _) _ _); refine wl_one rfl _ rfl x HX.out rfl ?_)
        | (at_builtin; go_must (refine app_ids rfl (.tmp 14) (.tmp 19) rfl w.heap.size _ S rfl HOWA.out _ 1 1 [x] rfl HIDS.out H48.out HBA.out ?_); intro v' w1 hown1 hgr1))
      have HM := Lib.hid (more_of (base := w.heap.size) hown1 (by simp) (hbw.alloc HBS.out _) hgr1 (fun k hk => (HOW.out.lt k hk).1) (by have := HBS.out; simp; omega))
      clear hown1 hgr1
      obtain ⟨g, cv, hv, hgb, hown, hbw1⟩ := HM.out
      have hlen : (S ++ [x]).length = i + 1 := by simp [HSL.out]
      rw [hlen] at hv
      subst hv
      have HOW1 := Lib.hid hown
      have HB1 := Lib.hid hbw1
      have HGB := Lib.hid hgb
      have HI := Lib.hid (show Ins S x i (S ++ [x]) from by have := Ins.start S x x; rwa [HSL.out] at this)
      clear HM hown hbw1 hgb hlen hbw HCA HOW
      go_loopg [5] i (fun g' v5 W => ∃ (k : Nat) (R : List (List UInt8)), v5 = .int .i64 k ∧ Hid (g' = k) ∧ (k : Int) ≤ (i : Int) ∧ Below w.heap.size w W ∧ Hid (OwnI W w.heap.size (.slice (some ⟨g, 0, none⟩) (i + 1) cv) R) ∧ Hid (Ins S x k R))
      case atStart => exact ⟨i, S ++ [x], rfl, Lib.hid rfl, by omega, HB1.out, HOW1, HI⟩
      case round =>
        clear HB1 HOW1 HI
        obtain ⟨k, R, rfl, HG2, hkI, hbw, HOW, HINS⟩ := hrel
        have HK := Lib.hid hkI
        have hgw : Below w.heap.size w wr := hbw
        by_cases hk : k = 0
        · subst hk
          have HF := Lib.hid (HINS.out.next HUP.out.1 HUP.out.2 (by rw [HLN.out]; exact HIN.out) HXE.out (.inl rfl))
          go_wp2
          go_quiet (fail)
          have HCB := Lib.hid (show (wr.drewN nq).rangeAt ba (oa + i * 32) (x.map B) by have := (HA.out.below (Go.below_drewN hbw nq)).at_ i HIN.out; rwa [← HXE.out] at this)
          have HOD := Lib.hid (HOW.out.below (Go.below_drewN (Below.refl _ wr) nq))
          have hbd := Go.below_drewN hbw nq
          clear hbw hgw
          generalize wr.drewN nq = w2 at HCB HOD hbd ⊢
          obtain ⟨_, hgr, _, hrow, hRl, _⟩ := HOD.out.row (by omega)
          simp only [Option.some.injEq, Addr.mk.injEq, and_true] at hgr
          subst hgr
          have HTH := Lib.hid (show w2.there g 0 32 by have := hrow.there_at 0 (by omega); rwa [Nat.zero_mul] at this)
          have HOS := Lib.hid (show OwnI (w2.setCells g 0 (x.map B)) w.heap.size (.slice (some ⟨g, 0, none⟩) (i + 1) cv) (R.set 0 x) by have := HOD.out.store 0 (by omega) x HX.out; rwa [Nat.zero_mul] at this)
          have HBS2 := Lib.hid ((Kept.setCells g 0 (x.map B) w2).below hbd HGB.out hbd.size)
          have HRL := Lib.hid hRl
          clear hrow hRl hbd
          go_wp2_with (first
            | ((with_reducible show wpList _ _ _ (⟨some 51, _, _, _, _, _⟩ :: _) _ _); refine wl_load (wanted_plain rfl) _ rfl ba (oa + i * 32) x HX.out rfl HCB.out ?_)
            | (refine wl_store rfl _ _ rfl g 0 x HX.out rfl rfl HTH.out ?_))
          go_roundg (n - (i + 1))
          case measure => have := HG.out; have := HIN.out; omega
          case rel => exact ⟨i + 1, R.set 0 x, some ⟨g, 0, none⟩, cv, rfl, by go_num, by have := HIN.out; omega, HBS2.out, HOS, Lib.hid (by rw [List.length_set]; exact HRL.out), HF⟩
        · obtain ⟨y, hy⟩ : ∃ y, y = S.getD (k - 1) [] := ⟨_, rfl⟩
          have HYE := Lib.hid hy
          have hRl : R.length = i + 1 := by rw [HINS.out.len, HSL.out]
          have HRL := Lib.hid hRl
          obtain ⟨_, hgr, _, hrow, _⟩ := HOW.out.row (by omega)
          simp only [Option.some.injEq, Addr.mk.injEq, and_true] at hgr
          subst hgr
          have HRD := Lib.hid (hrow.below (Below.refl _ wr).drew)
          have HY := Lib.hid (show y.length = 32 by rw [hy, ← HINS.out.read (by omega)]; exact getD_32 hrow.1 (by omega))
          have HCY := Lib.hid (show wr.drew.rangeAt g ((k - 1) * 32) (y.map B) by have := HRD.out.at_ (k - 1) (by omega); rwa [HINS.out.read (by omega), ← hy] at this)
          have HCB := Lib.hid (show wr.drew.rangeAt ba (oa + i * 32) (x.map B) by have := (HA.out.below hbw.drew).at_ i HIN.out; rwa [← HXE.out] at this)
          have HOD := Lib.hid (show OwnI wr.drew w.heap.size (.slice (some ⟨g, 0, none⟩) (i + 1) cv) R from HOW.out)
          have hbd := hbw.drew
          have k0 : (0 : Int) < (k : Int) := by omega
          have k6 : 0 < k := by omega
          have k1 : IntKind.i64.wrap ((k : Int) - 1) = (k : Int) - 1 := IntWalk.i64_in _ (by omega)
          have k2 : 0 ≤ (k : Int) - 1 := by omega
          have k3 : ((k : Int) - 1).toNat = k - 1 := by omega
          have k4 : (k : Int) - 1 < (i : Int) + 1 := by omega
          have k7 : (1 : Int) ≤ (k : Int) := by omega
          have k5 : k - 1 < i + 1 := by omega
          have HKP := Lib.hid (show 0 < k by omega)
          clear hk hy hRl hrow hbw hgw
          go_wp2
          refine wp_region_still_tail 12 (by kernel_rfl) (by kernel_rfl) ?_
          simp only [List.take_succ_cons, List.take_zero, List.drop_succ_cons, List.drop_zero]
          still_step
          still_step
          still_step
          still_step
          still_step
          still_step
          still_step
          refine still_w (by rfl) (exec_loadId _ rfl _ _ _ HY.out rfl HCY.out) ?_
          simp only [Act.put, List.setIfInBounds_toArray, List.set_cons_zero, List.set_cons_succ]
          still_step
          still_step
          still_step
          refine still_w (by rfl) (exec_loadId _ rfl _ _ _ HX.out rfl HCB.out) ?_
          simp only [Act.put, List.setIfInBounds_toArray, List.set_cons_zero, List.set_cons_succ]
          refine wpStill_nil ?_
          change wpList _ _ _ _ _ wr.drew
          clear k1 k3
          generalize wr.drew = w2 at HCB HCY HRD HOD hbd ⊢
          obtain ⟨z, hz⟩ : ∃ z, z = cmpF y x := ⟨_, rfl⟩
          have HZ := Lib.hid hz
          have HC := fun W => Lib.hid (refCmp_is _ _ z W HY.out HX.out hz)
          clear hz
          by_cases hc : 0 < z
          · have HIS := Lib.hid (show Ins S x (k - 1) (R.set k y) by have h := HINS.out.step HKP.out (by rw [← HYE.out, ← HZ.out]; exact hc); rwa [← HYE.out] at h)
            have hc1 : 1 ≤ z := by omega
            go_wp2_with (first
              | (go_at_call 68; go_must (refine (HC _).out.mono ?_); rintro e w3 ⟨rfl, hb3⟩; have HCY3 := Lib.hid (rangeAt_below HCY.out hb3); have HTH3 := Lib.hid (show w3.there g (k * 32) 32 from (HRD.out.below hb3).there_at k (by rw [HRL.out]; omega)))
              | ((with_reducible show wpList _ _ _ (⟨some 42, _, _, _, _, _⟩ :: _) _ _); refine wl_load (wanted_plain rfl) _ rfl g ((k - 1) * 32) y HY.out rfl HCY3.out ?_)
              | (refine wl_store rfl _ _ rfl g (k * 32) y HY.out rfl rfl HTH3.out ?_))
            have HBS2 := Lib.hid ((Kept.setCells g (k * 32) (y.map B) w3).below (hbd.trans (hb3.mono hbd.size)) HGB.out (hbd.trans (hb3.mono hbd.size)).size)
            have HOS := Lib.hid ((HOD.out.below hb3).store k (by rw [HRL.out]; omega) y HY.out)
            go_roundg (k - 1)
            case measure => have := HG2.out; have := HKP.out; omega
            case rel => exact ⟨k - 1, R.set k y, by congr 1; have := HKP.out; omega, Lib.hid rfl, by have := HK.out; omega, HBS2.out, HOS, HIS⟩
          · have HF := Lib.hid (HINS.out.next HUP.out.1 HUP.out.2 (by rw [HLN.out]; exact HIN.out) HXE.out (.inr (by rw [← HYE.out, ← HZ.out]; omega)))
            have hcf : decide (0 < z) = false := decide_eq_false hc
            clear hc
            go_wp2_with (first
              | (go_at_call 68; go_must (refine (HC _).out.mono ?_); rintro e w3 ⟨rfl, hb3⟩; have HCB3 := Lib.hid (rangeAt_below HCB.out hb3); have HTH3 := Lib.hid (show w3.there g (k * 32) 32 from (HRD.out.below hb3).there_at k (by rw [HRL.out]; omega)))
              | ((with_reducible show wpList _ _ _ (⟨some 51, _, _, _, _, _⟩ :: _) _ _); refine wl_load (wanted_plain rfl) _ rfl ba (oa + i * 32) x HX.out rfl HCB3.out ?_)
              | (refine wl_store rfl _ _ rfl g (k * 32) x HX.out rfl rfl HTH3.out ?_))
            have HBS2 := Lib.hid ((Kept.setCells g (k * 32) (x.map B) w3).below (hbd.trans (hb3.mono hbd.size)) HGB.out (hbd.trans (hb3.mono hbd.size)).size)
            have HOS := Lib.hid ((HOD.out.below hb3).store k (by rw [HRL.out]; omega) x HX.out)
            go_roundg (n - (i + 1))
            case measure => have := HG.out; have := HIN.out; omega
            case rel => exact ⟨i + 1, R.set k x, some ⟨g, 0, none⟩, cv, rfl, by go_num, by have := HIN.out; omega, HBS2.out, HOS, Lib.hid (by rw [List.length_set]; exact HRL.out), HF⟩
    · have HF := Lib.hid (show S = sortF l from sortF_of HUP.out.1 (by have h := HUP.out.2; rwa [List.take_of_length_le (by rw [HLN.out]; omega)] at h))
      clear hg
      go_wp2
      go_ret
      refine MadeI.of ?_ hbw
      rw [← HF.out]
      exact HOW.out
#print axioms refSort_any
end Go.Proofs.YtkhcoefcifaaeaaDoor
