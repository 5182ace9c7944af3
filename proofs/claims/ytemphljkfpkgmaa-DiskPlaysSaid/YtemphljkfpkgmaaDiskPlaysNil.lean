/-
  The walk of DiskPlays where neither disk is there; where the acts are too many.
-/
import Derived.Test.YtemphljkfpkgmaaDiskPlays
namespace Go.Proofs.Ytemphljkfpkgmaa
open Go.RowKit Go.Maps

set_option maxRecDepth 100000 in
set_option maxHeartbeats 1000000 in
theorem new_bad (z : Int) (w : World) (hz : z < 0 ∨ 1073741824 < z) : Calls Try.prog 5 #[.int .i64 z] w fun e w' => e = .returned (.pointer none) ∧ w = w' := by
  by_cases h0 : z < 0
  · go_enter Try.func5, Try.ntmps5
    go_wp2
    go_ret
    exact ⟨rfl, rfl⟩
  · have h1 : 1073741824 < z := by omega
    go_enter Try.func5, Try.ntmps5
    go_wp2
    go_ret
    exact ⟨rfl, rfl⟩
set_option maxRecDepth 100000 in
set_option maxHeartbeats 1000000 in
theorem diskPlays_many (z : Int) (a : Option Addr) (n c : Nat) (L : List ActV) (w : World) (hA : ActsAt w a n c L) (hQ : ¬ Light n 60 L) :
    Calls Try.prog 3 #[.int .i64 z, .slice a n c] w fun e w' => e = .returned (.bool true) ∧ Below w.heap.size w w' := by
  have P := Lib.hid (light_no 60 60 rfl (by omega) hA hQ)
  clear hA hQ
  go_enter Try.func3, Try.ntmps3
  go_wp2_with (go_at_call 4; (with_reducible refine P.out.mono ?_); rintro e w1 ⟨rfl, rfl⟩)
  go_ret
  exact ⟨rfl, Below.refl _ _⟩
set_option maxRecDepth 100000 in
set_option maxHeartbeats 4000000 in
theorem diskPlays_nil (z : Int) (hz : z < 0 ∨ 1073741824 < z) (a : Option Addr) (n c : Nat) (L : List ActV) (w : World) (hA : ActsAt w a n c L) (hQ : Light n 60 L) :
    Calls Try.prog 3 #[.int .i64 z, .slice a n c] w fun e w' => e = .returned (.bool true) ∧ Below w.heap.size w w' := by
  have hn := hA.le
  have hc := hA.most
  have HA := Lib.hid hA
  have P := Lib.hid (light_yes 60 60 rfl (by omega) hA hQ)
  have HN := Lib.hid hQ.1
  have HLT := Lib.hid hQ.2
  have hn60 : n ≤ 60 := hQ.1
  have N1 := Lib.hid (new_bad z w hz)
  have hdq : decide (0 ≤ z ∧ z ≤ 1073741824) = false := decide_eq_false (by omega)
  have N2 := Lib.hid (refNew_any z w)
  rw [hdq] at N2
  obtain ⟨V, hV⟩ : ∃ V, V = newV z false := ⟨_, rfl⟩
  have MD := Lib.hid (show V.made = false by rw [hV]; rfl)
  rw [← hV] at N2
  obtain ⟨S, hS⟩ : ∃ S, S = zeroS := ⟨_, rfl⟩
  have SD := Lib.hid (show S.down = false by rw [hS]; rfl)
  have SR := Lib.hid (show S.refused = 0 by rw [hS]; rfl)
  have SN := Lib.hid (show AtG entK w V.an V.nn V.cn S.now by rw [hV, hS]; exact AtG.nil)
  have SL := Lib.hid (show S.now.length ≤ 1000000 by rw [hS]; decide)
  have LN := Lib.hid (show listR V S = [] by unfold listR; rw [MD.out]; rfl)
  rw [← hS] at N2
  have AN := Lib.hid (fun w => (show At1 St w none 0 0 ([] : List Nm) from ⟨rfl, Nat.le_refl _, by omega, .inl ⟨rfl, rfl⟩⟩))
  have HLM := Lib.hid (show decide (([] : List Nm) = listR V S) = true by rw [LN.out]; rfl)
  have DNN := Lib.hid (fun w => (show Calls Try.prog 13 #[.pointer none] w (fun e w' => e = .returned (.bool S.down) ∧ w = w') by rw [SD.out]; exact nil_down w))
  have RNN := Lib.hid (fun w => (show Calls Try.prog 14 #[.pointer none] w (fun e w' => e = .returned (.int .i64 (S.refused : Int)) ∧ w = w') by rw [SR.out]; exact nil_refused w))
  clear hA hQ hn hc hdq hz hV hS
  go_enter Try.func3, Try.ntmps3
  go_wp2_with (first
    | (go_at_call 4; (with_reducible refine P.out.mono ?_); rintro e w1 ⟨rfl, rfl⟩)
    | (go_at_call 5; (with_reducible refine N1.out.mono ?_); rintro e W1 ⟨rfl, rfl⟩)
    | (go_at_call 6; (with_reducible refine N2.out.mono ?_); rintro e W2 ⟨rfl, hb2⟩
       have B2 := Lib.hid hb2
       clear hb2)
    | ((with_reducible show wpList _ _ _ (⟨some 6, _, _, _, _, _⟩ :: _) _ _); refine alloc_row rfl 31 zeroD rfl zero_disk ?_; intro W3 hr3 hb3 hs3
       have B3 := Lib.hid (B2.out.trans (hb3.mono B2.out.size))
       have Z3 := Lib.hid hr3
       clear hr3 hb3 hs3)
    | (refine store_row rfl 31 _ _ rfl W2.heap.size _ zeroD (refL V S) rfl rfl Z3.out rfl infoD (refL_one _ _) ?_; intro W4 hr4 hg4 hs4
       have R4 := Lib.hid (show RBox W4 W2.heap.size V S from hr4)
       have B4 := Lib.hid (B3.out.grown hg4 B3.out.size (fun k hk => by cases hk; exact B2.out.size))
       obtain ⟨q0, q1, q2, q3, q4, q5, q6, q7, q8, q9⟩ := RBox.cells R4.out
       have MQ := MD.out
       rw [MQ] at q0
       clear hr4 hg4 hs4 MQ))
  obtain ⟨gr, hgr⟩ : ∃ gr, gr = W2.heap.size := ⟨_, rfl⟩
  have HW4 := Lib.hid (show w.heap.size ≤ gr from hgr ▸ B2.out.size)
  rw [← hgr] at R4 q0 q1 q2 q3 q4 q5 q6 q7 q8 q9 ⊢
  clear q0 q1 q2 q3 q4 q5 q6 q7 q8 q9 hgr
  go_loopg [7] n (fun g v7 W => ∃ i : Nat, Below w.heap.size w W ∧ RBox W gr V S ∧ v7 = .int .i64 i ∧ g + i = n)
  case atStart => exact ⟨0, B4.out, R4.out, rfl, rfl⟩
  case round =>
    obtain ⟨i, hB, hR, rfl, hg⟩ := hrel
    have BW := Lib.hid hB
    have RB := Lib.hid hR
    have HGN := Lib.hid hg
    have hi0 : (0 : Int) ≤ (i : Int) := by omega
    have hiI : (i : Int) ≤ (n : Int) := by omega
    by_cases hi : (i : Int) < (n : Int)
    · have hin : i < n := by omega
      obtain ⟨b, o, rfl⟩ := HA.out.some_ (by omega)
      have HX := Lib.hid (HA.out.each i hin)
      have HLD := Lib.hid (fun W (hb : Below w.heap.size w W) => (show W.cell? ⟨b, o + i * 6, none⟩ = some (.int .i64 (L.getD i default).z) ∧ W.cell? ⟨b, o + i * 6 + 1, none⟩ = some (.string (L.getD i default).s) ∧ W.cell? ⟨b, o + i * 6 + 2, none⟩ = some (.string (L.getD i default).t) ∧ W.cell? ⟨b, o + i * 6 + 3, none⟩ = some (.slice (L.getD i default).a (L.getD i default).m (L.getD i default).c) ∧ W.cell? ⟨b, o + i * 6 + 4, none⟩ = some (.int .i64 (L.getD i default).n) ∧ W.cell? ⟨b, o + i * 6 + 5, none⟩ = some (.slice (L.getD i default).a5 (L.getD i default).m5 (L.getD i default).c5) from ⟨(HA.out.below hb).cell i hin (i := 0) rfl, (HA.out.below hb).cell i hin (i := 1) rfl, (HA.out.below hb).cell i hin (i := 2) rfl, (HA.out.below hb).cell i hin (i := 3) rfl, (HA.out.below hb).cell i hin (i := 4) rfl, (HA.out.below hb).cell i hin (i := 5) rfl⟩))
      have HXM := Lib.hid (show (L.getD i default).m ≤ 300 by have := (HLT.out i hin).1; have := HX.out.bytes.1; omega)
      have HXM5 := Lib.hid (show (L.getD i default).m5 ≤ 100 by have := (HLT.out i hin).2; have := HX.out.fates.1; omega)
      generalize (L.getD i default) = x at HX HLD HXM HXM5
      clear hB hR hg
      go_wp2_with fail
      go_cut [8, 9] from 29 to 39 (fun v8 v9 W' => ∃ g8, v8 = Value.pointer (some ⟨g8, 0, none⟩) ∧ v9 = Value.bool true ∧ Hid (Below w.heap.size w W') ∧ Hid (RBox W' gr V S) ∧ Hid (RBox W' g8 V S))
      case first =>
        refine wp_region_held_drew (S := fun W' => RBox W' gr V S ∧ Below w.heap.size w W') (by kernel_rfl) ⟨RB.out, BW.out.drew⟩ (fun hHeld => ?_)
        refine wpAnyH_take (i := 0) (oi := ⟨some 30, .move (.tmp 5), _, _, _, _⟩) (v := (.pointer none)) rfl (by kernel_rfl) (by kernel_rfl) (by kernel_rfl) (fun _ _ _ h => h) (Or.inl ⟨by rfl, fun W hW => by go_simp⟩) (by assumption) ?_
        simp only [Act.put, List.setIfInBounds_toArray, List.set_cons_zero, List.set_cons_succ]
        refine wpAnyH_take (i := 1) (oi := ⟨some 31, .load 31 (.tmp 6), _, _, _, _⟩) (v := (.agg (refC V S))) rfl (by kernel_rfl) (by kernel_rfl) (by kernel_rfl) (fun _ _ _ h => h) (Or.inl ⟨by rfl, fun W hW => exec_loadD _ rfl _ V S rfl hW.1⟩) (by assumption) ?_
        simp only [Act.put, List.setIfInBounds_toArray, List.set_cons_zero, List.set_cons_succ]
        refine wpAnyH_take (i := 2) (oi := ⟨some 32, .move (.tmp 1), _, _, _, _⟩) (v := (.slice (some ⟨b, o, none⟩) n c)) rfl (by kernel_rfl) (by kernel_rfl) (by kernel_rfl) (fun _ _ _ h => h) (Or.inl ⟨by rfl, fun W hW => by go_simp⟩) (by assumption) ?_
        simp only [Act.put, List.setIfInBounds_toArray, List.set_cons_zero, List.set_cons_succ]
        refine wpAnyH_take (i := 3) (oi := ⟨some 33, .move (.tmp 7), _, _, _, _⟩) (v := (.int .i64 (i : Int))) rfl (by kernel_rfl) (by kernel_rfl) (by kernel_rfl) (fun _ _ _ h => h) (Or.inl ⟨by rfl, fun W hW => by go_simp⟩) (by assumption) ?_
        simp only [Act.put, List.setIfInBounds_toArray, List.set_cons_zero, List.set_cons_succ]
        refine wpAnyH_take (i := 4) (oi := ⟨some 34, .indexAddr 22 (.tmp 32) (.tmp 33), _, _, _, _⟩) (v := (.pointer (some ⟨b, o + i * 6, none⟩))) rfl (by kernel_rfl) (by kernel_rfl) (by kernel_rfl) (fun _ _ _ h => h) (Or.inl ⟨by rfl, fun W hW => by go_simp⟩) (by assumption) ?_
        simp only [Act.put, List.setIfInBounds_toArray, List.set_cons_zero, List.set_cons_succ]
        refine wpAnyH_take (i := 5) (oi := ⟨some 35, .load 37 (.tmp 34), _, _, _, _⟩) (v := (.agg x.cells)) rfl (by kernel_rfl) (by kernel_rfl) (by kernel_rfl) (fun _ _ _ h => h) (Or.inl ⟨by rfl, fun W hW => by obtain ⟨h0, h1, h2, h3, h4, h5⟩ := HLD.out W hW.2; go_simp⟩) (by assumption) ?_
        simp only [Act.put, List.setIfInBounds_toArray, List.set_cons_zero, List.set_cons_succ]
        refine wpAnyH_ready (rs := [6, 10]) (by kernel_rfl) (by simp) ?_
        refine (AllReadyH.cons (o := ⟨some 36, .call { callee := .value (.func 7), args := #[(.tmp 30), (.tmp 31), (.tmp 35)], argTypes := #[24, 31, 37] }, _, _, _, _⟩) rfl (fun K hK => ?_) (AllReadyH.cons (o := ⟨some 8, .alloc 31, _, _, _, _⟩) rfl (fun K hK => ?_) AllReadyH.nil))
        ·
          go_simp
          go_at_call 7
          refine (played_nil x w wr.drew V S MD.out BW.out.drew HX.out HXM.out HXM5.out).mono ?_
          rintro e5 w5 ⟨rfl, hb5⟩
          have C5 := Lib.hid (show Below wr.heap.size wr w5 from (Below.refl _ _).drew.trans hb5)
          have R5 := Lib.hid (RBox.below RB.out C5.out)
          have B5 := Lib.hid (BW.out.trans (C5.out.mono BW.out.size))
          refine hK.out _ _ ⟨R5.out, B5.out⟩ (fun hHeld => ?_)
          clear hK K hb5
          refine wpAnyH_take (i := 7) (oi := ⟨some 29, .move (.tmp 36), _, _, _, _⟩) (v := (.tuple #[.agg (refC V S), .bool true])) rfl (by kernel_rfl) (by kernel_rfl) (by kernel_rfl) (fun _ _ _ h => h) (Or.inl ⟨by rfl, fun W hW => by go_simp⟩) (by assumption) ?_
          simp only [Act.put, List.setIfInBounds_toArray, List.set_cons_zero, List.set_cons_succ]
          refine wpAnyH_take (i := 8) (oi := ⟨some 37, .extract (.tmp 29) 0, _, _, _, _⟩) (v := (.agg (refC V S))) rfl (by kernel_rfl) (by kernel_rfl) (by kernel_rfl) (fun _ _ _ h => h) (Or.inl ⟨by rfl, fun W hW => by go_simp⟩) (by assumption) ?_
          simp only [Act.put, List.setIfInBounds_toArray, List.set_cons_zero, List.set_cons_succ]
          refine wpAnyH_take (i := 9) (oi := ⟨some 38, .extract (.tmp 29) 1, _, _, _, _⟩) (v := (.bool true)) rfl (by kernel_rfl) (by kernel_rfl) (by kernel_rfl) (fun _ _ _ h => h) (Or.inl ⟨by rfl, fun W hW => by go_simp⟩) (by assumption) ?_
          simp only [Act.put, List.setIfInBounds_toArray, List.set_cons_zero, List.set_cons_succ]
          refine wpAnyH_ready (rs := [10]) (by kernel_rfl) (by simp) ?_
          refine (AllReadyH.cons (o := ⟨some 8, .alloc 31, _, _, _, _⟩) rfl (fun K hK => ?_) AllReadyH.nil)
          go_simp
          have A6 := Lib.hid ((Below.refl w5.heap.size w5).alloc (Nat.le_refl _) (.cells zeroD.toArray 31))
          refine hK.out _ _ ⟨RBox.below R5.out A6.out, B5.out.trans (A6.out.mono B5.out.size)⟩ (fun hHeld => ?_)
          clear hK K
          refine wpAnyH_ready (rs := [11]) (by kernel_rfl) (by simp) ?_
          refine (AllReadyH.cons (o := ⟨none, .store 31 (.tmp 8) (.tmp 37), _, _, _, _⟩) rfl (fun K hK => ?_) AllReadyH.nil)
          refine ready_stepD (wp_store_row 31 (.tmp 8) (.tmp 37) rfl w5.heap.size _ zeroD (refL V S) rfl rfl (zero_new w5) rfl infoD (refL_one _ _) ?_)
          intro w7 hr7 hg7 _
          have C7 := Lib.hid (A6.out.grown hg7 A6.out.size (fun k hk => by cases hk; exact Nat.le_refl _))
          have B7 := Lib.hid (B5.out.trans (C7.out.mono B5.out.size))
          have R7 := Lib.hid (RBox.below R5.out C7.out)
          have HR7 := Lib.hid (show RBox w7 w5.heap.size V S from hr7)
          refine hK.out _ _ ⟨R7.out, B7.out⟩ (fun hHeld => ?_)
          clear hK K hr7 hg7
          refine wpAnyH_take (i := 12) (oi := ⟨some 9, .assign (.tmp 38), _, _, _, _⟩) (v := (.bool true)) rfl (by kernel_rfl) (by kernel_rfl) (by kernel_rfl) (fun _ _ _ h => h) (Or.inl ⟨by rfl, fun W hW => by go_simp⟩) (by assumption) ?_
          simp only [Act.put, List.setIfInBounds_toArray, List.set_cons_zero, List.set_cons_succ]
          refine wpAnyH_done (by kernel_rfl) ?_ _
          go_wp2
          go_meet
          case rel => exact ⟨_, rfl, rfl, B7, R7, HR7⟩
        ·
          go_simp
          have A6 := Lib.hid (show Below wr.heap.size wr (wr.alloc (.cells zeroD.toArray 31)).drew from (Below.refl _ _).drew.alloc (Nat.le_refl _) (.cells zeroD.toArray 31))
          have BA := Lib.hid (BW.out.trans (A6.out.mono BW.out.size))
          refine hK.out _ _ ⟨RBox.below RB.out A6.out, BA.out⟩ (fun hHeld => ?_)
          clear hK K
          refine wpAnyH_ready (rs := [6]) (by kernel_rfl) (by simp) ?_
          refine (AllReadyH.cons (o := ⟨some 36, .call { callee := .value (.func 7), args := #[(.tmp 30), (.tmp 31), (.tmp 35)], argTypes := #[24, 31, 37] }, _, _, _, _⟩) rfl (fun K hK => ?_) AllReadyH.nil)
          go_simp
          go_at_call 7
          refine (played_nil x w _ V S MD.out BA.out HX.out HXM.out HXM5.out).mono ?_
          rintro e5 w5 ⟨rfl, hb5⟩
          have R5 := Lib.hid (RBox.below (RBox.below RB.out A6.out) hb5)
          have Z5 := Lib.hid (RowAt.below (show RowAt (wr.alloc (.cells zeroD.toArray 31)).drew wr.heap.size 31 zeroD from zero_new wr) hb5)
          have B5 := Lib.hid (BA.out.trans (hb5.mono BA.out.size))
          refine hK.out _ _ ⟨R5.out, B5.out⟩ (fun hHeld => ?_)
          clear hK K hb5
          refine wpAnyH_take (i := 7) (oi := ⟨some 29, .move (.tmp 36), _, _, _, _⟩) (v := (.tuple #[.agg (refC V S), .bool true])) rfl (by kernel_rfl) (by kernel_rfl) (by kernel_rfl) (fun _ _ _ h => h) (Or.inl ⟨by rfl, fun W hW => by go_simp⟩) (by assumption) ?_
          simp only [Act.put, List.setIfInBounds_toArray, List.set_cons_zero, List.set_cons_succ]
          refine wpAnyH_take (i := 8) (oi := ⟨some 37, .extract (.tmp 29) 0, _, _, _, _⟩) (v := (.agg (refC V S))) rfl (by kernel_rfl) (by kernel_rfl) (by kernel_rfl) (fun _ _ _ h => h) (Or.inl ⟨by rfl, fun W hW => by go_simp⟩) (by assumption) ?_
          simp only [Act.put, List.setIfInBounds_toArray, List.set_cons_zero, List.set_cons_succ]
          refine wpAnyH_take (i := 9) (oi := ⟨some 38, .extract (.tmp 29) 1, _, _, _, _⟩) (v := (.bool true)) rfl (by kernel_rfl) (by kernel_rfl) (by kernel_rfl) (fun _ _ _ h => h) (Or.inl ⟨by rfl, fun W hW => by go_simp⟩) (by assumption) ?_
          simp only [Act.put, List.setIfInBounds_toArray, List.set_cons_zero, List.set_cons_succ]
          refine wpAnyH_ready (rs := [11]) (by kernel_rfl) (by simp) ?_
          refine (AllReadyH.cons (o := ⟨none, .store 31 (.tmp 8) (.tmp 37), _, _, _, _⟩) rfl (fun K hK => ?_) AllReadyH.nil)
          refine ready_stepD (wp_store_row 31 (.tmp 8) (.tmp 37) rfl wr.heap.size _ zeroD (refL V S) rfl rfl Z5.out rfl infoD (refL_one _ _) ?_)
          intro w7 hr7 hg7 _
          have B7 := Lib.hid (B5.out.grown hg7 B5.out.size (fun k hk => by cases hk; exact BW.out.size))
          have R7 := Lib.hid (show RBox w7 gr V S from R5.out.grown hg7 (fun e => by have e2 := Option.some.inj e; have := RowAt.lt RB.out; omega))
          have HR7 := Lib.hid (show RBox w7 wr.heap.size V S from hr7)
          refine hK.out _ _ ⟨R7.out, B7.out⟩ (fun hHeld => ?_)
          clear hK K hr7 hg7
          refine wpAnyH_take (i := 12) (oi := ⟨some 9, .assign (.tmp 38), _, _, _, _⟩) (v := (.bool true)) rfl (by kernel_rfl) (by kernel_rfl) (by kernel_rfl) (fun _ _ _ h => h) (Or.inl ⟨by rfl, fun W hW => by go_simp⟩) (by assumption) ?_
          simp only [Act.put, List.setIfInBounds_toArray, List.set_cons_zero, List.set_cons_succ]
          refine wpAnyH_done (by kernel_rfl) ?_ _
          go_wp2
          go_meet
          case rel => exact ⟨_, rfl, rfl, B7, R7, HR7⟩
      case rest =>
        obtain ⟨g8, rfl, rfl, B9, R9, G9⟩ := hcut
        go_wp2_with (first
          | (refine load_row rfl 31 _ rfl g8 _ (refL V S) _ rfl G9.out Try.underlying31 rfl infoD ?_)
          | (refine store_row rfl 31 _ _ rfl gr _ (refL V S) (refL V S) rfl rfl R9.out rfl infoD (refL_one _ _) ?_; intro w8 hr8 hg8 _
             have R8 := Lib.hid (show RBox w8 gr V S from hr8)
             have B8 := Lib.hid (B9.out.grown hg8 B9.out.size (fun k hk => by cases hk; exact HW4.out))
             obtain ⟨q0, q1, q2, q3, q4, q5, q6, q7, q8, q9⟩ := RBox.cells R8.out
             have MQ := MD.out
             rw [MQ] at q0
             clear hr8 hg8 MQ))
        clear q0 q1 q2 q3 q4 q5 q6 q7 q8 q9
        have QC := Lib.hid (RBox.cells R8.out)
        go_region_held3 (fun W' => W'.cell? ⟨gr, 0, none⟩ = some (.bool V.made) ∧ W'.cell? ⟨gr, 1, none⟩ = some (.int .i64 V.q) ∧ W'.cell? ⟨gr, 2, none⟩ = some (.slice V.af V.nf V.cf) ∧ W'.cell? ⟨gr, 3, none⟩ = some (.slice V.ay V.ny V.cy) ∧ W'.cell? ⟨gr, 4, none⟩ = some (.slice V.an V.nn V.cn) ∧ W'.cell? ⟨gr, 5, none⟩ = some (.slice V.ak V.nk V.ck) ∧ W'.cell? ⟨gr, 6, none⟩ = some (.slice V.aa V.na V.ca) ∧ W'.cell? ⟨gr, 7, none⟩ = some (.int .i64 (S.refused : Int)) ∧ W'.cell? ⟨gr, 8, none⟩ = some (.int .i64 (S.arm : Int)) ∧ W'.cell? ⟨gr, 9, none⟩ = some (.bool S.down)) (first | exact QC.out | exact PC9.out | exact PC10.out) (first
          | (go_simp; go_at_call 10; (refine (nil_list _).mono ?_); rintro e w9 ⟨rfl, rfl⟩)
          | (go_simp; go_at_call 11; (refine (refList_any V S _ (SN.out.below (B8.out.drew)) SL.out).mono ?_); rintro e w10 ⟨a10, c10, rfl, ha10, hb10, _⟩
             have B10 := Lib.hid (show Below w8.heap.size w8 w10 from (Below.refl _ _).drew.trans hb10)
             have A10 := Lib.hid ha10
             have PC9 := Lib.hid (RBox.cells (RBox.below R8.out B10.out))
             clear hb10 ha10)
          | (go_simp; go_at_call 9; (refine (refTexts_any _ _ _ _ _ _ _ _ _ (AN.out _) A10.out).mono ?_); rintro e w11 ⟨rfl, hb11⟩; rw [HLM.out]
             have B11 := Lib.hid (B10.out.trans (hb11.mono B10.out.size))
             have R11 := Lib.hid (RBox.below R8.out B11.out)
             have PC10 := Lib.hid (RBox.cells R11.out)
             clear hb11)
          | (go_simp; go_at_call 12; (refine (nil_used _).mono ?_); rintro e w12 ⟨rfl, rfl⟩)
          | (go_simp; go_at_call 13; (refine (DNN.out _).mono ?_); rintro e w12 ⟨rfl, rfl⟩)
          | (go_simp; go_at_call 14; (refine (RNN.out _).mono ?_); rintro e w12 ⟨rfl, rfl⟩))
        all_goals (
          go_wp2
          go_roundg (gk - 1)
          case measure => have := HGN.out; omega
          case rel => exact ⟨i + 1, B8.out.trans (B11.out.mono B8.out.size), R11.out, by go_num, by have := HGN.out; omega⟩)
    · clear hB hR hg
      go_wp2_with (go_at_call 15; (with_reducible refine (awake_any _).mono ?_); rintro e w9 ⟨rfl, hb9⟩)
      go_ret
      exact ⟨rfl, BW.out.trans (hb9.mono BW.out.size)⟩
theorem diskPlays_any (z : Int) (a : Option Addr) (n c : Nat) (L : List ActV) (w : World) (hA : ActsAt w a n c L) :
    Calls Try.prog 3 #[.int .i64 z, .slice a n c] w fun e w' => e = .returned (.bool true) ∧ Below w.heap.size w w' := by
  by_cases hQ : Light n 60 L
  · by_cases hz : z < 0 ∨ 1073741824 < z
    · exact diskPlays_nil z hz a n c L w hA hQ
    · obtain ⟨q, rfl⟩ : ∃ q : Nat, z = (q : Int) := ⟨z.toNat, by omega⟩
      exact diskPlays_yes q (by omega) a n c L w hA hQ
  · exact diskPlays_many z a n c L w hA hQ
#print axioms diskPlays_any
end Go.Proofs.Ytemphljkfpkgmaa
