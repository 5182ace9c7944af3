/-
  The walk of the law OrderSets.
-/
import Derived.Test.YtiakbbokmllcdaaOrdLaws
namespace Go.Proofs.Ytiakbbokmllcdaa
open Go.RowKit

theorem union_mk (l k : List (List UInt8)) : setF l = setF (setF (inF k false l) ++ setF (inF k true l)) := by
  refine set_unique (setF_set _) (setF_set _) (fun x => ?_)
  rw [setF_mem, setF_mem, List.mem_append, setF_mem, setF_mem, inF_mem, inF_mem]
  by_cases h : x ∈ k <;> simp [h]
theorem union_comm (l k : List (List UInt8)) : setF (l ++ k) = setF (k ++ l) := by
  refine set_unique (setF_set _) (setF_set _) (fun x => ?_)
  rw [setF_mem, setF_mem, List.mem_append, List.mem_append, or_comm]
theorem sets_len (l k : List (List UInt8)) : (setF (l ++ k)).length = (setF (inF k false l)).length + (setF (inF l false k)).length + (setF (inF k true l)).length := by
  rw [← List.length_append, ← List.length_append]
  refine List.Perm.length_eq ((List.perm_ext_iff_of_nodup (setF_set _).nodup ?_).2 (fun x => ?_))
  · rw [List.nodup_append, List.nodup_append]
    refine ⟨⟨(setF_set _).nodup, (setF_set _).nodup, ?_⟩, (setF_set _).nodup, ?_⟩
    · intro x hx y hy e
      subst e
      rw [setF_mem, inF_mem] at hx hy
      have h1 := of_decide_eq_false hy.2
      exact h1 hx.1
    · intro x hx y hy e
      subst e
      rw [List.mem_append, setF_mem, setF_mem, inF_mem, inF_mem] at hx
      rw [setF_mem, inF_mem] at hy
      have h1 := of_decide_eq_true hy.2
      rcases hx with hx | hx
      · exact of_decide_eq_false hx.2 h1
      · exact of_decide_eq_false hx.2 hy.1
  · rw [setF_mem, List.mem_append, List.mem_append, List.mem_append, setF_mem, setF_mem, setF_mem, inF_mem, inF_mem, inF_mem, decide_eq_false_iff_not, decide_eq_false_iff_not, decide_eq_true_iff]
    by_cases h1 : x ∈ l <;> by_cases h2 : x ∈ k <;> simp [h1, h2]
theorem isSetF_set (l : List (List UInt8)) : true = isSetF (setF l) := ((isSetF_iff _).2 (setF_set l)).symm

set_option maxRecDepth 100000 in
set_option maxHeartbeats 4000000 in
theorem ordSets_any (a : Option Addr) (n c : Nat) (l : List (List UInt8)) (b : Option Addr) (m d : Nat) (k : List (List UInt8)) (w : World) (ha : IdsAt w a n c l) (hb : IdsAt w b m d k) :
    Calls Try.prog 9 #[.slice a n c, .slice b m d] w fun e w' => e = .returned (.bool true) ∧ Below w.heap.size w w' := by
  have HA := Lib.hid ha
  have HB := Lib.hid hb
  by_cases hn : (n : Int) ≤ 200
  · by_cases hm : (m : Int) ≤ 200
    · obtain ⟨S, hS⟩ : ∃ S, S = sortF l := ⟨_, rfl⟩
      obtain ⟨U, hU⟩ : ∃ U, U = setF (l ++ k) := ⟨_, rfl⟩
      obtain ⟨M, hM⟩ : ∃ M, M = setF (inF k false l) := ⟨_, rfl⟩
      obtain ⟨O, hO⟩ : ∃ O, O = setF (inF l false k) := ⟨_, rfl⟩
      obtain ⟨K, hK⟩ : ∃ K, K = setF (inF k true l) := ⟨_, rfl⟩
      obtain ⟨T, hT⟩ : ∃ T, T = setF l := ⟨_, rfl⟩
      obtain ⟨qU, hqU⟩ : ∃ q, q = U.length := ⟨_, rfl⟩
      obtain ⟨qM, hqM⟩ : ∃ q, q = M.length := ⟨_, rfl⟩
      obtain ⟨qO, hqO⟩ : ∃ q, q = O.length := ⟨_, rfl⟩
      obtain ⟨qK, hqK⟩ : ∃ q, q = K.length := ⟨_, rfl⟩
      obtain ⟨qT, hqT⟩ : ∃ q, q = T.length := ⟨_, rfl⟩
      have hla := ha.1
      have hlb := hb.1
      have hsum : qU = qM + qO + qK := by rw [hqU, hqM, hqO, hqK, hU, hM, hO, hK]; exact sets_len l k
      have bM : qM ≤ 200 := by have := setF_length_le (inF k false l); have := inF_length k false l; rw [hqM, hM]; omega
      have bO : qO ≤ 200 := by have := setF_length_le (inF l false k); have := inF_length l false k; rw [hqO, hO]; omega
      have bK : qK ≤ 200 := by have := setF_length_le (inF k true l); have := inF_length k true l; rw [hqK, hK]; omega
      have bT : qT ≤ 200 := by have := setF_length_le l; rw [hqT, hT]; omega
      have HSL := Lib.hid (show n = S.length by rw [hS, sortF_length]; exact hla.symm)
      have HUP := Lib.hid (show Up S by rw [hS]; exact sortF_up l)
      have HS := Lib.hid hS
      have HU := Lib.hid hU
      have HM := Lib.hid hM
      have HO := Lib.hid hO
      have HK := Lib.hid hK
      have HT := Lib.hid hT
      have HQU := Lib.hid hqU
      have HQM := Lib.hid hqM
      have HQO := Lib.hid hqO
      have HQK := Lib.hid hqK
      have HQT := Lib.hid hqT
      have HIU := Lib.hid (show true = isSetF U by rw [hU]; exact isSetF_set _)
      have HIM := Lib.hid (show true = isSetF M by rw [hM]; exact isSetF_set _)
      have HIK := Lib.hid (show true = isSetF K by rw [hK]; exact isSetF_set _)
      have HTM := Lib.hid (show T = setF (M ++ K) by rw [hT, hM, hK]; exact union_mk l k)
      have HUK := Lib.hid (show U = setF (k ++ l) by rw [hU]; exact union_comm l k)
      have HN := Lib.hid (show n ≤ 100000 by omega)
      have HN6 := Lib.hid (show n ≤ 1000000 by omega)
      have HM5 := Lib.hid (show m ≤ 100000 by omega)
      have HM6 := Lib.hid (show m ≤ 1000000 by omega)
      have HBM := Lib.hid (show qM ≤ 100000 by omega)
      have HBM6 := Lib.hid (show qM ≤ 1000000 by omega)
      have HBK := Lib.hid (show qK ≤ 100000 by omega)
      have HBK6 := Lib.hid (show qK ≤ 1000000 by omega)
      have HBU6 := Lib.hid (show qU ≤ 1000000 by omega)
      have HBT6 := Lib.hid (show qT ≤ 1000000 by omega)
      have s1 : ((qU : Int) == (qM : Int) + (qO : Int) + (qK : Int)) = true := by rw [hsum]; simp
      have s2 : (qM : Int) ≤ 200 := by omega
      have s3 : (qO : Int) ≤ 200 := by omega
      have s4 : (qK : Int) ≤ 200 := by omega
      have hnI : (n : Int) ≤ 1000000000000 := by omega
      clear ha hb hS hU hM hO hK hT hqU hqM hqO hqK hqT hla hlb hsum bM bO bK bT
      go_enter Try.func9, Try.ntmps9
      go_wp2_with (go_at_call 17; (with_reducible refine (sort_to a n c l S n _ HA.out HN6.out HS.out HSL.out).mono ?_); rintro e w1 ⟨aP, cP, rfl, hP, hb1⟩; have HP := Lib.hid hP; have HB1 := Lib.hid hb1; clear hP hb1)
      have HI := Lib.hid (show True from trivial)
      go_loopg [6] (n + 1) (fun g v6 W => ∃ j : Nat, Below w1.heap.size w1 W ∧ v6 = .int .i64 j ∧ 1 ≤ j ∧ g + j = n + 1 + 1 ∧ (j ≤ n ∨ j = 1))
      case atStart => exact ⟨1, Below.refl _ _, rfl, by omega, by omega, .inr rfl⟩
      case round =>
        clear HI
        obtain ⟨j, hbw, rfl, hj1, hg, hor⟩ := hrel
        have HG := Lib.hid hg
        have HOR := Lib.hid hor
        have hj0 : (1 : Int) ≤ (j : Int) := by omega
        have hjI : (j : Int) ≤ (n : Int) + 1 := by omega
        by_cases hj : (j : Int) < (n : Int)
        · obtain ⟨ba, oa, rfl⟩ := HP.out.some_ (by omega)
          have HCA := Lib.hid ((HP.out.below hbw.drew).at_ (j - 1) (by omega))
          have HCB := Lib.hid ((HP.out.below hbw.drew).at_ j (by omega))
          have HX := Lib.hid (getD_32 HP.out.2.2.2.1 (i := j - 1) (by rw [← HSL.out]; omega))
          have HY := Lib.hid (getD_32 HP.out.2.2.2.1 (i := j) (by rw [← HSL.out]; omega))
          have hbd := hbw.drew
          have k1 : IntKind.i64.wrap ((j : Int) - 1) = (j : Int) - 1 := IntWalk.i64_in _ (by omega)
          have k2 : 0 ≤ (j : Int) - 1 := by omega
          have k3 : ((j : Int) - 1).toNat = j - 1 := by omega
          have k4 : (j : Int) - 1 < (n : Int) := by omega
          have k5 : j - 1 < n := by omega
          have HZ0 := Lib.hid (show cmpF (S.getD (j - 1) []) (S.getD j []) ≤ 0 from up_at HUP.out (by omega) (by rw [← HSL.out]; omega))
          clear hg hor hj1
          go_wp2
          refine wp_region_still_tail 9 (by kernel_rfl) (by kernel_rfl) ?_
          simp only [List.take_succ_cons, List.take_zero, List.drop_succ_cons, List.drop_zero]
          still_step
          still_step
          still_step
          still_step
          refine still_w (by rfl) (exec_loadId _ rfl _ _ _ HX.out rfl HCA.out) ?_
          simp only [Act.put, List.setIfInBounds_toArray, List.set_cons_zero, List.set_cons_succ]
          still_step
          still_step
          still_step
          refine still_w (by rfl) (exec_loadId _ rfl _ _ _ HY.out rfl HCB.out) ?_
          simp only [Act.put, List.setIfInBounds_toArray, List.set_cons_zero, List.set_cons_succ]
          refine wpStill_nil ?_
          change wpList _ _ _ _ _ wr.drew
          clear k1 k3
          generalize wr.drew = w2 at hbd ⊢
          obtain ⟨z, hz⟩ : ∃ z, z = cmpF (S.getD (j - 1) []) (S.getD j []) := ⟨_, rfl⟩
          have HC := fun W => Lib.hid (cmp_is _ _ z W HX.out HY.out hz)
          have hcf : decide (0 < z) = false := decide_eq_false (by rw [hz]; have := HZ0.out; omega)
          clear hz
          go_wp2_with (go_at_call 11; go_must (refine (HC _).out.mono ?_); rintro e w3 ⟨rfl, hb3⟩)
          go_roundg (gk - 1)
          case measure => have := HG.out; omega
          case rel => exact ⟨j + 1, hbd.trans (hb3.mono hbd.size), by go_num, by omega, by have := HG.out; omega, .inl (by omega)⟩
        · have hS : Below w.heap.size w wr := HB1.out.trans (hbw.mono HB1.out.size)
          clear hg hor hbw
          go_wp2_with (first
            | (go_at_call 29; (with_reducible refine (union_to a n c l b m d k U qU _ (HA.out.below hS) (HB.out.below hS) HN.out HM5.out HU.out HQU.out).mono ?_); rintro e wU ⟨aU, cU, rfl, hU, hbU⟩; have HUU := Lib.hid hU; have hS := hS.trans (hbU.mono hS.size); clear hU hbU)
            | (go_at_call 31; (with_reducible refine (minus_to a n c l b m d k M qM _ (HA.out.below hS) (HB.out.below hS) HN.out HM5.out HM.out HQM.out).mono ?_); rintro e wM ⟨aM, cM, rfl, hM, hbM⟩; have HMM := Lib.hid hM; have HUU := Lib.hid (HUU.out.below hbM); have hS := hS.trans (hbM.mono hS.size); clear hM hbM)
            | (go_at_call 31; (with_reducible refine (minus_to b m d k a n c l O qO _ (HB.out.below hS) (HA.out.below hS) HM5.out HN.out HO.out HQO.out).mono ?_); rintro e wO ⟨aO, cO, rfl, hO, hbO⟩; have HUU := Lib.hid (HUU.out.below hbO); have HMM := Lib.hid (HMM.out.below hbO); have hS := hS.trans (hbO.mono hS.size); clear hO hbO)
            | (go_at_call 33; (with_reducible refine (both_to a n c l b m d k K qK _ (HA.out.below hS) (HB.out.below hS) HN.out HM5.out HK.out HQK.out).mono ?_); rintro e wK ⟨aK, cK, rfl, hK, hbK⟩; have HKK := Lib.hid hK; have HUU := Lib.hid (HUU.out.below hbK); have HMM := Lib.hid (HMM.out.below hbK); have hS := hS.trans (hbK.mono hS.size); have HA5 := Lib.hid (HA.out.below hS); have HB5 := Lib.hid (HB.out.below hS); have hT := Below.refl wK.heap.size wK; clear hK hbK)
            | (go_at_call 22; (first | (with_reducible refine (isSet_of aU qU cU U true _ (HUU.out.below hT) HBU6.out HIU.out).mono ?_) | (with_reducible refine (isSet_of aM qM cM M true _ (HMM.out.below hT) HBM6.out HIM.out).mono ?_) | (with_reducible refine (isSet_of aK qK cK K true _ (HKK.out.below hT) HBK6.out HIK.out).mono ?_)); rintro e wI ⟨rfl, hbI⟩; have hT := hT.trans (hbI.mono hT.size); clear hbI)
            | (go_at_call 29; (with_reducible refine (union_to aM qM cM M aK qK cK K T qT _ (HMM.out.below hT) (HKK.out.below hT) HBM.out HBK.out HTM.out HQT.out).mono ?_); rintro e wV ⟨aV, cV, rfl, hV, hbV⟩; have HVV := Lib.hid hV; have hT := hT.trans (hbV.mono hT.size); clear hV hbV)
            | (go_at_call 20; (with_reducible refine (set_to a n c l T qT _ (HA5.out.below hT) HN6.out HT.out HQT.out).mono ?_); rintro e wW ⟨aW, cW, rfl, hW, hbW⟩; have HWW := Lib.hid hW; have HVV := Lib.hid (HVV.out.below hbW); have hT := hT.trans (hbW.mono hT.size); clear hW hbW)
            | (go_at_call 16; (with_reducible refine (same_yes aV qT cV T aW qT cW T _ HVV.out HWW.out rfl HBT6.out).mono ?_); rintro e wE ⟨rfl, hbE⟩; have hT := hT.trans (hbE.mono hT.size); clear hbE)
            | (go_at_call 29; (with_reducible refine (union_to b m d k a n c l U qU _ (HB5.out.below hT) (HA5.out.below hT) HM5.out HN.out HUK.out HQU.out).mono ?_); rintro e wV ⟨aY, cY, rfl, hV, hbV⟩; have HYY := Lib.hid hV; have hT := hT.trans (hbV.mono hT.size); clear hV hbV)
            | (go_at_call 16; (with_reducible refine (same_yes aY qU cY U aU qU cU U _ HYY.out (HUU.out.below hT) rfl HBU6.out).mono ?_); rintro e wE ⟨rfl, hbE⟩; have hT := hT.trans (hbE.mono hT.size); clear hbE)
            | (go_at_call 15; (with_reducible refine (awake_any _).mono ?_); rintro e wZ ⟨rfl, hbZ⟩; have hT := hT.trans (hbZ.mono hT.size); clear hbZ))
          go_ret
          exact ⟨rfl, hS.trans (hT.mono hS.size)⟩
    · clear ha hb
      go_enter Try.func9, Try.ntmps9
      go_wp2
      go_ret
      exact ⟨rfl, Below.refl _ _⟩
  · clear ha hb
    go_enter Try.func9, Try.ntmps9
    go_wp2
    go_ret
    exact ⟨rfl, Below.refl _ _⟩
#print axioms ordSets_any
end Go.Proofs.Ytiakbbokmllcdaa
