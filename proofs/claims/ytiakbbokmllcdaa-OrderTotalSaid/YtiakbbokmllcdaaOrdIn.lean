/-
  The walk of the law OrderIn.
-/
import Derived.Test.YtiakbbokmllcdaaOrdFinds
namespace Go.Proofs.Ytiakbbokmllcdaa
open Go.RowKit

theorem wanted_plain {o : Oper} {l} (h : o.guard = none) : Region.wanted o l = true := by unfold Region.wanted; rw [h]

theorem findF_set (l : List (List UInt8)) (y : List UInt8) : findF (setF l) y = (aheadF (setF l) y, decide (y ∈ l)) := by
  unfold findF
  rw [if_pos ((isSetF_iff _).2 (setF_set l))]
  congr 1
  rw [Bool.eq_iff_iff, decide_eq_true_iff, decide_eq_true_iff]
  exact setF_mem l y
theorem findS_at (a : Option Addr) (n c : Nat) (l : List (List UInt8)) (x : List UInt8) (k : Nat) (b : Bool) (w : World) (ha : IdsAt w a n c (setF l)) (hx : x.length = 32) (hn : n ≤ 1000000000) (hz : k = aheadF (setF l) x ∧ b = decide (x ∈ l)) :
    Calls Try.prog 27 #[.slice a n c, .agg (idCells x)] w fun e w' => e = .returned (.tuple #[.int .i64 (k : Int), .bool b]) ∧ Below w.heap.size w w' := by
  obtain ⟨rfl, rfl⟩ := hz
  exact find_at a n c (setF l) x _ _ w ha hx hn (by rw [findF_set]; exact ⟨rfl, rfl⟩)
theorem in_at (a : Option Addr) (n c : Nat) (l : List (List UInt8)) (x : List UInt8) (b : Bool) (w : World) (ha : IdsAt w a n c l) (hx : x.length = 32) (hn : n ≤ 1000000000) (hb : b = decide (x ∈ l)) :
    Calls Try.prog 35 #[.slice a n c, .agg (idCells x)] w fun e w' => e = .returned (.bool b) ∧ Below w.heap.size w w' := by
  subst hb
  exact in_any a n c l x w ha hx (by omega)
theorem set_at (a : Option Addr) (n c m : Nat) (l : List (List UInt8)) (w : World) (hb : IdsAt w a n c l) (hl : n ≤ 1000000000) (hm : m = (setF l).length) :
    Calls Try.prog 20 #[.slice a n c] w fun e w' => ∃ a1 c1, e = .returned (.slice a1 m c1) ∧ IdsAt w' a1 m c1 (setF l) ∧ Below w.heap.size w w' := by
  subst hm
  exact set_any a n c l w hb hl
theorem nodup_le : ∀ (s l : List (List UInt8)), s.Nodup → (∀ x ∈ s, x ∈ l) → s.length ≤ l.length
  | [], _, _, _ => Nat.zero_le _
  | x :: s, l, hn, h => by
    rw [List.nodup_cons] at hn
    have hx := h x (by simp)
    have := nodup_le s (l.erase x) hn.2 (fun y hy => (List.mem_erase_of_ne (show y ≠ x from fun e => hn.1 (e ▸ hy))).2 (h y (by simp [hy])))
    rw [List.length_erase_of_mem hx] at this
    have hp := List.length_pos_of_mem hx
    rw [List.length_cons]
    omega
theorem setF_length_le (l : List (List UInt8)) : (setF l).length ≤ l.length := by
  have h1 : (setF l).Nodup := (setF_set l).nodup
  exact nodup_le _ _ h1 (fun x hx => (setF_mem l x).1 hx)

set_option maxRecDepth 100000 in
set_option maxHeartbeats 2000000 in
theorem ordIn_any (a : Option Addr) (n c : Nat) (l : List (List UInt8)) (x : List UInt8) (w : World) (ha : IdsAt w a n c l) (hx : x.length = 32) :
    Calls Try.prog 10 #[.slice a n c, .agg (idCells x)] w fun e w' => e = .returned (.bool true) ∧ Below w.heap.size w w' := by
  have hbel : Below w.heap.size w (w.alloc (.cells (idCells x) 23)) := (Below.refl _ _).alloc (Nat.le_refl _) _
  have HA := Lib.hid (ha.below hbel)
  have HLN := Lib.hid ha.1
  have HX := Lib.hid (idAt_new w x hx)
  have HBL := Lib.hid hbel
  have HXL := Lib.hid hx
  by_cases hn : (n : Int) ≤ 300
  · obtain ⟨m, hm⟩ : ∃ m, m = (setF l).length := ⟨_, rfl⟩
    have hml : m ≤ n := by rw [hm, ← ha.1]; exact setF_length_le l
    have HM := Lib.hid hm
    have HN := Lib.hid (show n ≤ 1000000000 by omega)
    have HMN := Lib.hid (show m ≤ 1000000000 by omega)
    obtain ⟨k, b, hz⟩ : ∃ (k : Nat) (b : Bool), k = aheadF (setF l) x ∧ b = decide (x ∈ l) := ⟨_, _, rfl, rfl⟩
    have HZ := Lib.hid hz
    clear ha hx hbel hz hm hml
    go_enter Try.func10, Try.ntmps10
    go_wp2_with (first
      | (go_at_call 20; go_must (refine (set_at a n c m l _ HA.out HN.out HM.out).mono ?_); rintro e w1 ⟨aS, cS, rfl, hS1, hb1⟩; have HX1 := Lib.hid (HX.out.below hb1); have HA1 := Lib.hid (HA.out.below hb1))
      | (with_reducible show wpList _ _ _ (⟨some 18, _, _, _, _, _⟩ :: _) _ _; refine load_id rfl (.tmp 3) rfl w.heap.size x rfl HX1.out ?_)
      | (go_at_call 27; go_must (refine (findS_at aS m cS l x k b w1 hS1 HXL.out HMN.out HZ.out).mono ?_); rintro e w2 ⟨rfl, hb2⟩; have HX2 := Lib.hid (HX1.out.below hb2); have HA2 := Lib.hid (HA1.out.below hb2))
      | (with_reducible show wpList _ _ _ (⟨some 24, _, _, _, _, _⟩ :: _) _ _; refine load_id rfl (.tmp 3) rfl w.heap.size x rfl HX2.out ?_)
      | (go_at_call 35; go_must (refine (in_at a n c l x b w2 HA2.out HXL.out HN.out HZ.out.2).mono ?_); rintro e w3 ⟨rfl, hb3⟩))
    have HA3 := Lib.hid (HA2.out.below hb3)
    have HS3 := Lib.hid ((hS1.below hb2).below hb3)
    have HB3 := Lib.hid (((HBL.out.trans (hb1.mono HBL.out.size)).trans (hb2.mono (HBL.out.trans (hb1.mono HBL.out.size)).size)).trans (hb3.mono ((HBL.out.trans (hb1.mono HBL.out.size)).trans (hb2.mono (HBL.out.trans (hb1.mono HBL.out.size)).size)).size))
    have hn0 : (0 : Int) ≤ (n : Int) := by omega
    clear hS1 hb1 hb2 hb3 HX1 HX2 HA1 HA2 HX HA HBL
    go_loopg [8] n (fun g v8 W => ∃ j : Nat, v8 = .int .i64 j ∧ g + j = n ∧ Below w3.heap.size w3 W)
    case atStart => exact ⟨0, rfl, rfl, Below.refl _ _⟩
    case round =>
      obtain ⟨j, rfl, hg, hbw⟩ := hrel
      have HG := Lib.hid hg
      have hj0 : (0 : Int) ≤ (j : Int) := by omega
      have hjI : (j : Int) ≤ (n : Int) := by omega
      by_cases hj : (j : Int) < (n : Int)
      · obtain ⟨ba, oa, rfl⟩ := HA3.out.some_ (by omega)
        obtain ⟨y, hy⟩ : ∃ y, y = l.getD j [] := ⟨_, rfl⟩
        have HCA := Lib.hid (show wr.rangeAt ba (oa + j * 32) (y.map B) by have := (HA3.out.below hbw).at_ j (by omega); rwa [← hy] at this)
        have HYL := Lib.hid (show y.length = 32 by rw [hy]; exact getD_32 HA3.out.2.2.2.1 (by rw [HLN.out]; omega))
        have hyl : y ∈ l := mem_of_getD (by rw [HLN.out]; omega) hy.symm
        obtain ⟨hk1, hk2⟩ := (mem_at (setF_set l) y).1 ((setF_mem l y).2 hyl)
        obtain ⟨k2, hkk⟩ : ∃ k2, k2 = aheadF (setF l) y := ⟨_, rfl⟩
        rw [← hkk] at hk1 hk2
        rw [← HM.out] at hk1
        obtain ⟨bs, os, rfl⟩ := HS3.out.some_ (by omega)
        have HZ2 := Lib.hid (show k2 = aheadF (setF l) y ∧ true = decide (y ∈ l) from ⟨hkk, (decide_eq_true hyl).symm⟩)
        have HFD := Lib.hid (findS_at _ m cS l y k2 true wr (HS3.out.below hbw) HYL.out HMN.out HZ2.out)
        have HKY := Lib.hid hk2
        have k0 : (0 : Int) ≤ (k2 : Int) := by omega
        have k1 : (k2 : Int) < (m : Int) := by omega
        have k3 : k2 < m := hk1
        have d1 : decide (m ≤ k2) = false := by simp; omega
        have d2 : decide ((m : Int) ≤ (k2 : Int)) = false := by simp; omega
        have d3 : decide ((k2 : Int) < 0) = false := by simp
        clear hg hy hyl hk1 hk2 hkk
        go_wp2_with (first
          | (with_reducible show wpList _ _ _ (⟨some 38, _, _, _, _, _⟩ :: _) _ _; refine wl_load (wanted_plain rfl) _ rfl ba (oa + j * 32) y HYL.out rfl HCA.out ?_)
          | (go_at_call 27; go_must (refine HFD.out.mono ?_); rintro e w4 ⟨rfl, hb4⟩; have hbw4 := hbw.trans (hb4.mono hbw.size)))
        have HCX := Lib.hid (show w4.drew.rangeAt bs (os + k2 * 32) (y.map B) by have := (HS3.out.below hbw4.drew).at_ k2 k3; rwa [HKY.out] at this)
        have HCY := Lib.hid (show w4.drew.rangeAt ba (oa + j * 32) (y.map B) from rangeAt_below HCA.out hb4.drew)
        have hbd := hbw4.drew
        refine wp_region_still_lit (by kernel_rfl) (by kernel_rfl) ?_
        still_step
        still_step
        still_step
        still_step
        still_step
        still_step
        still_step
        still_step
        still_step
        still_step
        still_step
        still_step
        still_step
        still_step
        still_step
        still_step
        refine still_w (by rfl) (exec_loadId _ rfl _ _ _ HYL.out rfl HCX.out) ?_
        simp only [Act.put, List.setIfInBounds_toArray, List.set_cons_zero, List.set_cons_succ]
        still_step
        still_step
        still_step
        refine still_w (by rfl) (exec_loadId _ rfl _ _ _ HYL.out rfl HCY.out) ?_
        simp only [Act.put, List.setIfInBounds_toArray, List.set_cons_zero, List.set_cons_succ]
        refine still_w (by rfl) (exec_neqId _ _ _ rfl _ _ HYL.out HYL.out rfl rfl) ?_
        simp only [Act.put, List.setIfInBounds_toArray, List.set_cons_zero, List.set_cons_succ]
        simp only [decide_true, Bool.not_true]
        still_step
        refine wpStill_nil ?_
        change Exit.then _ _ _ _ w4.drew
        generalize w4.drew = w5 at hbd ⊢
        go_wp2
        go_roundg (gk - 1)
        case measure => have := HG.out; omega
        case rel => exact ⟨j + 1, by go_num, by have := HG.out; omega, hbd⟩
      · clear hg
        go_wp2_with (go_at_call 15; go_must (refine (awake_any _).mono ?_); rintro e w4 ⟨rfl, hb4⟩)
        go_ret
        have hS4 := hbw.trans (hb4.mono hbw.size)
        exact ⟨rfl, HB3.out.trans (hS4.mono HB3.out.size)⟩
  · clear ha hx hbel
    go_enter Try.func10, Try.ntmps10
    go_wp2
    go_ret
    exact ⟨rfl, HBL.out⟩
#print axioms ordIn_any
end Go.Proofs.Ytiakbbokmllcdaa
