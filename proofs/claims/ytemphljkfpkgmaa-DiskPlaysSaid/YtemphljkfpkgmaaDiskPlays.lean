/-
  The walk of DiskPlays: any acts on any disk.
-/
import Derived.Test.YtemphljkfpkgmaaPlayed
import Derived.Test.YtemphljkfpkgmaaPlayedNil
import Derived.Test.YtemphljkfpkgmaaDiskDone
import Derived.Test.YtemphljkfpkgmaaRefList
import Derived.Test.YtemphljkfpkgmaaRefTexts
import Derived.Deep.RegionHeld
import Derived.Deep.RegionHeld3
import Derived.Deep.CutRange
namespace Go.Proofs.Ytemphljkfpkgmaa
open Go.RowKit Go.Maps

theorem Duo.wide {w W W2 : World} {F X : Nat → Prop} {db g : Nat} {V : RVal} {S : DS} (D : Duo w W F X db V S) (hb : Below W.heap.size W W2) (hg : W.heap.size ≤ g) : Duo w W2 F (fun k => X k ∨ k = g) db V S :=
  ⟨D.run.below hb, fun W' h => D.safe W' ⟨h.os.trans hb.os, h.tape.trans hb.tape, h.output.trans hb.output, Nat.le_trans hb.size h.size, fun k hk hn => by
    rw [h.block k (Nat.lt_of_lt_of_le hk hb.size) (fun e => by
      rcases e with e | e | e
      · exact hn (.inl e)
      · exact hn (.inr e)
      · omega), hb.block k hk]⟩, D.made, D.quota, D.arm⟩
theorem Duo.less {w W : World} {F X X2 : Nat → Prop} {db : Nat} {V : RVal} {S : DS} (D : Duo w W F X2 db V S) (h : ∀ k, X k → X2 k) : Duo w W F X db V S :=
  ⟨D.run, fun W' hc => D.safe W' (hc.mono fun k _ e => e.elim .inl (fun e => .inr (h k e))), D.made, D.quota, D.arm⟩
theorem zero_new (w : World) : RowAt (w.alloc (.cells zeroD.toArray 31)) w.heap.size 31 zeroD := heap_alloc_new w _
set_option maxRecDepth 100000 in
set_option maxHeartbeats 4000000 in
theorem diskPlays_yes (q : Nat) (hq : q ≤ 1073741824) (a : Option Addr) (n c : Nat) (L : List ActV) (w : World) (hA : ActsAt w a n c L) (hQ : Light n 60 L) :
    Calls Try.prog 3 #[.int .i64 (q : Int), .slice a n c] w fun e w' => e = .returned (.bool true) ∧ Below w.heap.size w w' := by
  have hn := hA.le
  have hc := hA.most
  have HA := Lib.hid hA
  have P := Lib.hid (light_yes 60 60 rfl (by omega) hA hQ)
  have HN := Lib.hid hQ.1
  have HLT := Lib.hid hQ.2
  have hn60 : n ≤ 60 := hQ.1
  have N1 := Lib.hid (aw_new (Below.refl w.heap.size w) (q : Int) q rfl hq)
  have hdq : decide (0 ≤ (q : Int) ∧ (q : Int) ≤ 1073741824) = true := decide_eq_true (by omega)
  have N2 := Lib.hid (fun W => refNew_any (q : Int) W)
  rw [hdq] at N2
  clear hA hQ hn hc hdq
  go_enter Try.func3, Try.ntmps3
  go_wp2_with (first
    | (go_at_call 4; (with_reducible refine P.out.mono ?_); rintro e w1 ⟨rfl, rfl⟩)
    | (go_at_call 5; (with_reducible refine N1.out.mono ?_); rintro e W1 ⟨db, rfl, F, hr⟩; have R1 := Lib.hid hr; clear hr)
    | (go_at_call 6; (with_reducible refine (N2.out _).mono ?_); rintro e W2 ⟨rfl, hb2⟩
       have D2 := Lib.hid (show Duo w W2 F (fun k => k = W2.heap.size) db (newV q true) (newS q) from ⟨R1.out.below hb2, fun W' _ => newIn W' _ _ _, rfl, rfl, Nat.zero_le _⟩)
       clear hb2)
    | ((with_reducible show wpList _ _ _ (⟨some 6, _, _, _, _, _⟩ :: _) _ _); refine alloc_row rfl 31 zeroD rfl zero_disk ?_; intro W3 hr3 hb3 hs3
       have D3 := Lib.hid (D2.out.below hb3)
       have Z3 := Lib.hid hr3
       have HS3 := Lib.hid hs3
       clear hr3 hb3 hs3)
    | (refine store_row rfl 31 _ _ rfl W2.heap.size _ zeroD (refL (newV q true) (newS q)) rfl rfl Z3.out rfl infoD (refL_one _ _) ?_; intro W4 hr4 hg4 hs4
       have R4 := Lib.hid (show RBox W4 W2.heap.size (newV q true) (newS q) from hr4)
       have D4 := Lib.hid (D3.out.chg (Chg.refl.grown hg4 (fun k hk => by cases hk; exact .inl rfl)) (fun k hk => by subst hk; exact ⟨fun e => by have := D2.out.run.1.lt _ e; omega, D2.out.run.2.2.size⟩))
       obtain ⟨q0, q1, q2, q3, q4, q5, q6, q7, q8, q9⟩ := RBox.cells R4.out
       dsimp only [newV] at q0
       have NF4 := Lib.hid (show ¬ F W2.heap.size from fun e => by have := D2.out.run.1.lt _ e; omega)
       have HW4 := Lib.hid (show w.heap.size ≤ W2.heap.size from D2.out.run.2.2.size)
       clear hr4 hg4 hs4))
  have DU0 := Lib.hid D4.out
  have FW0 := Lib.hid (few_new q)
  obtain ⟨gr, hgr⟩ : ∃ gr, gr = W2.heap.size := ⟨_, rfl⟩
  rw [← hgr] at DU0 R4 NF4 HW4 q0 q1 q2 q3 q4 q5 q6 q7 q8 q9 ⊢
  clear q0 q1 q2 q3 q4 q5 q6 q7 q8 q9 hgr
  go_loopg [7] n (fun g v7 W => ∃ i : Nat, ∃ F V S, Duo w W F (fun k => k = gr) db V S ∧ RBox W gr V S ∧ ¬ F gr ∧ Few S i ∧ v7 = .int .i64 i ∧ g + i = n)
  case atStart => exact ⟨0, _, _, _, DU0.out, R4.out, NF4.out, FW0.out, rfl, rfl⟩
  case round =>
    obtain ⟨i, F3, V, S, hD, hR, hNG, hF, rfl, hg⟩ := hrel
    have HGN := Lib.hid hg
    have DU := Lib.hid hD
    have RB := Lib.hid hR
    have NG := Lib.hid hNG
    have HFW := Lib.hid hF
    have hi0 : (0 : Int) ≤ (i : Int) := by omega
    have hiI : (i : Int) ≤ (n : Int) := by omega
    by_cases hi : (i : Int) < (n : Int)
    · have hin : i < n := by omega
      obtain ⟨b, o, rfl⟩ := HA.out.some_ (by omega)
      have HX := Lib.hid (HA.out.each i hin)
      have HLD := Lib.hid (fun W (hb : Below w.heap.size w W) => (show W.cell? ⟨b, o + i * 6, none⟩ = some (.int .i64 (L.getD i default).z) ∧ W.cell? ⟨b, o + i * 6 + 1, none⟩ = some (.string (L.getD i default).s) ∧ W.cell? ⟨b, o + i * 6 + 2, none⟩ = some (.string (L.getD i default).t) ∧ W.cell? ⟨b, o + i * 6 + 3, none⟩ = some (.slice (L.getD i default).a (L.getD i default).m (L.getD i default).c) ∧ W.cell? ⟨b, o + i * 6 + 4, none⟩ = some (.int .i64 (L.getD i default).n) ∧ W.cell? ⟨b, o + i * 6 + 5, none⟩ = some (.slice (L.getD i default).a5 (L.getD i default).m5 (L.getD i default).c5) from ⟨(HA.out.below hb).cell i hin (i := 0) rfl, (HA.out.below hb).cell i hin (i := 1) rfl, (HA.out.below hb).cell i hin (i := 2) rfl, (HA.out.below hb).cell i hin (i := 3) rfl, (HA.out.below hb).cell i hin (i := 4) rfl, (HA.out.below hb).cell i hin (i := 5) rfl⟩))
      have HXM := Lib.hid (show (L.getD i default).m ≤ 300 by have := (HLT.out i hin).1; have := HX.out.bytes.1; omega)
      have HXM5 := Lib.hid (show (L.getD i default).m5 ≤ 100 by have := (HLT.out i hin).2; have := HX.out.fates.1; omega)
      have HF9 := Lib.hid (show Few S 900 from HFW.out.mono (by omega))
      have HD := Lib.hid (few_do hD.run.1.1 hF (L.getD i default))
      generalize (L.getD i default) = x at HX HLD HXM HXM5 HD
      clear hD hR hNG hF hg
      go_wp2_with fail
      go_cut [8, 9] from 29 to 39 (fun v8 v9 W' => ∃ g8 V5 F5, v8 = Value.pointer (some ⟨g8, 0, none⟩) ∧ v9 = Value.bool true ∧ Hid (Duo w W' F5 (fun k => k = gr) db V5 (doS S x)) ∧ Hid (RBox W' gr V S) ∧ Hid (RBox W' g8 V5 (doS S x)) ∧ ¬ F5 gr ∧ g8 ≠ gr)
      case first =>
        refine wp_region_held_drew (S := fun W' => RBox W' gr V S ∧ Below w.heap.size w W') (by kernel_rfl) ⟨RB.out, DU.out.run.2.2.drew⟩ (fun hHeld => ?_)
        refine wpAnyH_take (i := 0) (oi := ⟨some 30, .move (.tmp 5), _, _, _, _⟩) (v := (Pt db)) rfl (by kernel_rfl) (by kernel_rfl) (by kernel_rfl) (fun _ _ _ h => h) (Or.inl ⟨by rfl, fun W hW => by go_simp⟩) (by assumption) ?_
        simp only [Act.put, List.setIfInBounds_toArray, List.set_cons_zero, List.set_cons_succ]
        refine wpAnyH_take (i := 1) (oi := ⟨some 31, .load 31 (.tmp 6), _, _, _, _⟩) (v := (.agg (refC V S))) rfl (by kernel_rfl) (by kernel_rfl) (by kernel_rfl) (fun _ _ _ h => h) (Or.inl ⟨by rfl, fun W hW => exec_loadD _ rfl _ V S rfl hW.1⟩) (by assumption) ?_
        simp only [Act.put, List.setIfInBounds_toArray, List.set_cons_zero, List.set_cons_succ]
        refine wpAnyH_take (i := 2) (oi := ⟨some 32, .move (.tmp 1), _, _, _, _⟩) (v := (.slice (some ⟨b, o, none⟩) n c)) rfl (by kernel_rfl) (by kernel_rfl) (by kernel_rfl) (fun _ _ _ h => h) (Or.inl ⟨by rfl, fun W hW => by go_simp⟩) (by assumption) ?_
        simp only [Act.put, List.setIfInBounds_toArray, List.set_cons_zero, List.set_cons_succ]
        refine wpAnyH_take (i := 3) (oi := ⟨some 33, .move (.tmp 7), _, _, _, _⟩) (v := (.int .i64 (i : Int))) rfl (by kernel_rfl) (by kernel_rfl) (by kernel_rfl) (fun _ _ _ h => h) (Or.inl ⟨by rfl, fun W hW => by go_simp⟩) (by assumption) ?_
        simp only [Act.put, List.setIfInBounds_toArray, List.set_cons_zero, List.set_cons_succ]
        refine wpAnyH_take (i := 4) (oi := ⟨some 34, .indexAddr 22 (.tmp 32) (.tmp 33), _, _, _, _⟩) (v := (.pointer (some ⟨b, o + i * 6, none⟩))) rfl (by kernel_rfl) (by kernel_rfl) (by kernel_rfl) (fun _ _ _ h => h) (Or.inl ⟨by rfl, fun W hW => by go_simp⟩) (by assumption) ?_
        simp only [Act.put, List.setIfInBounds_toArray, List.set_cons_zero, List.set_cons_succ]
        refine wpAnyH_take (i := 5) (oi := ⟨some 35, .load 37 (.tmp 34), _, _, _, _⟩) (v := (.agg x.cells)) rfl (by kernel_rfl) (by kernel_rfl) (by kernel_rfl) (fun _ _ _ h => h) (Or.inl ⟨by rfl, fun W hW => by obtain ⟨h0, h1, h2, h3, h4, h5⟩ := HLD.out W hW.2; go_simp⟩) (by assumption) ?_
        simp only [Act.put, List.setIfInBounds_toArray, List.set_cons_zero, List.set_cons_succ]
        refine wpAnyH_ready (rs := [6, 10]) (by kernel_rfl) (by simp) ?_
        refine (AllReadyH.cons (o := ⟨some 36, .call { callee := .value (.func 7), args := #[(.tmp 30), (.tmp 31), (.tmp 35)], argTypes := #[24, 31, 37] }, _, _, _, _⟩) rfl (fun K hK => ?_) (AllReadyH.cons (o := ⟨some 8, .alloc 31, _, _, _, _⟩) rfl (fun K hK => ?_) AllReadyH.nil))
        ·
          go_simp
          go_at_call 7
          refine (played_yes x w wr.drew F3 (fun k => k = gr) db V S (DU.out.below ((Below.refl _ _).drew)) (fun k hk => by subst hk; have := RowAt.lt RB.out; simp; omega) HX.out HXM.out HXM5.out HF9.out).mono ?_
          rintro e5 w5 ⟨V5, F5, rfl, hq5, hd5, hs5⟩
          have D5 := Lib.hid hd5
          have HS5 := Lib.hid hs5
          have NG5 := Lib.hid (show ¬ F5 gr from fun e => (hs5.more gr e).elim NG.out (fun h => by have := RowAt.lt RB.out; simp at h; omega))
          clear hd5 hs5
          refine hK.out _ _ ⟨row_chg (show RowAt wr.drew gr 31 (refL V S) from RB.out) HS5.out.chg NG.out, D5.out.run.2.2⟩ (fun hHeld => ?_)
          clear hK K
          refine wpAnyH_take (i := 7) (oi := ⟨some 29, .move (.tmp 36), _, _, _, _⟩) (v := (.tuple #[.agg (refC V5 (doS S x)), .bool true])) rfl (by kernel_rfl) (by kernel_rfl) (by kernel_rfl) (fun _ _ _ h => h) (Or.inl ⟨by rfl, fun W hW => by go_simp⟩) (by assumption) ?_
          simp only [Act.put, List.setIfInBounds_toArray, List.set_cons_zero, List.set_cons_succ]
          refine wpAnyH_take (i := 8) (oi := ⟨some 37, .extract (.tmp 29) 0, _, _, _, _⟩) (v := (.agg (refC V5 (doS S x)))) rfl (by kernel_rfl) (by kernel_rfl) (by kernel_rfl) (fun _ _ _ h => h) (Or.inl ⟨by rfl, fun W hW => by go_simp⟩) (by assumption) ?_
          simp only [Act.put, List.setIfInBounds_toArray, List.set_cons_zero, List.set_cons_succ]
          refine wpAnyH_take (i := 9) (oi := ⟨some 38, .extract (.tmp 29) 1, _, _, _, _⟩) (v := (.bool true)) rfl (by kernel_rfl) (by kernel_rfl) (by kernel_rfl) (fun _ _ _ h => h) (Or.inl ⟨by rfl, fun W hW => by go_simp⟩) (by assumption) ?_
          simp only [Act.put, List.setIfInBounds_toArray, List.set_cons_zero, List.set_cons_succ]
          refine wpAnyH_ready (rs := [10]) (by kernel_rfl) (by simp) ?_
          refine (AllReadyH.cons (o := ⟨some 8, .alloc 31, _, _, _, _⟩) rfl (fun K hK => ?_) AllReadyH.nil)
          go_simp
          have A6 := Lib.hid ((Below.refl w5.heap.size w5).alloc (Nat.le_refl _) (.cells zeroD.toArray 31))
          have R6 := Lib.hid (show RBox w5 gr V S from row_chg (show RowAt wr.drew gr 31 (refL V S) from RB.out) HS5.out.chg NG.out)
          refine hK.out _ _ ⟨RBox.below R6.out A6.out, (D5.out.below A6.out).run.2.2⟩ (fun hHeld => ?_)
          clear hK K
          refine wpAnyH_ready (rs := [11]) (by kernel_rfl) (by simp) ?_
          refine (AllReadyH.cons (o := ⟨none, .store 31 (.tmp 8) (.tmp 37), _, _, _, _⟩) rfl (fun K hK => ?_) AllReadyH.nil)
          refine ready_stepD (wp_store_row 31 (.tmp 8) (.tmp 37) rfl (w5.heap.size) _ zeroD (refL V5 (doS S x)) rfl rfl (zero_new w5) rfl infoD (refL_one _ _) ?_)
          intro w7 hr7 hg7 _
          have B7 := Lib.hid (A6.out.grown hg7 A6.out.size (fun k hk => by cases hk; exact Nat.le_refl _))
          have D7 := Lib.hid (D5.out.below B7.out)
          have R7 := Lib.hid (RBox.below R6.out B7.out)
          have N8 := Lib.hid (show w5.heap.size ≠ gr from fun e => by have := RowAt.lt R6.out; omega)
          have HR7 := Lib.hid (show RBox w7 w5.heap.size V5 (doS S x) from hr7)
          refine hK.out _ _ ⟨R7.out, D7.out.run.2.2⟩ (fun hHeld => ?_)
          clear hK K hr7 hg7
          refine wpAnyH_take (i := 12) (oi := ⟨some 9, .assign (.tmp 38), _, _, _, _⟩) (v := (.bool true)) rfl (by kernel_rfl) (by kernel_rfl) (by kernel_rfl) (fun _ _ _ h => h) (Or.inl ⟨by rfl, fun W hW => by go_simp⟩) (by assumption) ?_
          simp only [Act.put, List.setIfInBounds_toArray, List.set_cons_zero, List.set_cons_succ]
          refine wpAnyH_done (by kernel_rfl) ?_ _
          go_wp2
          go_meet
          case rel => exact ⟨_, V5, F5, rfl, rfl, D7, R7, HR7, NG5.out, N8.out⟩
        ·
          go_simp
          have A6 := Lib.hid (show Below wr.heap.size wr (wr.alloc (.cells zeroD.toArray 31)).drew from (Below.refl _ _).drew.alloc (Nat.le_refl _) (.cells zeroD.toArray 31))
          refine hK.out _ _ ⟨RBox.below RB.out A6.out, (DU.out.below A6.out).run.2.2⟩ (fun hHeld => ?_)
          clear hK K
          have DW := Lib.hid (DU.out.wide A6.out (Nat.le_refl _))
          have LGR := Lib.hid (RowAt.lt RB.out)
          have NGW := Lib.hid (show ¬ F3 wr.heap.size from fun e => by have := DU.out.run.1.lt _ e; omega)
          refine wpAnyH_ready (rs := [6]) (by kernel_rfl) (by simp) ?_
          refine (AllReadyH.cons (o := ⟨some 36, .call { callee := .value (.func 7), args := #[(.tmp 30), (.tmp 31), (.tmp 35)], argTypes := #[24, 31, 37] }, _, _, _, _⟩) rfl (fun K hK => ?_) AllReadyH.nil)
          go_simp
          go_at_call 7
          refine (played_yes x w _ F3 (fun k => k = gr ∨ k = wr.heap.size) db V S DW.out (fun k hk => by have := LGR.out; simp; omega) HX.out HXM.out HXM5.out HF9.out).mono ?_
          rintro e5 w5 ⟨V5, F5, rfl, hq5, hd5, hs5⟩
          have D5 := Lib.hid hd5
          have NG5 := Lib.hid (show ¬ F5 gr from fun e => (hs5.more gr e).elim NG.out (fun h => by have := LGR.out; simp at h; omega))
          have NW5 := Lib.hid (show ¬ F5 wr.heap.size from fun e => (hs5.more _ e).elim NGW.out (fun h => by simp at h; omega))
          have R6 := Lib.hid (show RBox w5 gr V S from row_chg (RBox.below RB.out A6.out) hs5.chg NG.out)
          have Z6 := Lib.hid (show RowAt w5 wr.heap.size 31 zeroD from row_chg (show RowAt (wr.alloc (.cells zeroD.toArray 31)).drew wr.heap.size 31 zeroD from zero_new wr) hs5.chg NGW.out)
          clear hd5 hs5
          refine hK.out _ _ ⟨R6.out, D5.out.run.2.2⟩ (fun hHeld => ?_)
          clear hK K
          refine wpAnyH_take (i := 7) (oi := ⟨some 29, .move (.tmp 36), _, _, _, _⟩) (v := (.tuple #[.agg (refC V5 (doS S x)), .bool true])) rfl (by kernel_rfl) (by kernel_rfl) (by kernel_rfl) (fun _ _ _ h => h) (Or.inl ⟨by rfl, fun W hW => by go_simp⟩) (by assumption) ?_
          simp only [Act.put, List.setIfInBounds_toArray, List.set_cons_zero, List.set_cons_succ]
          refine wpAnyH_take (i := 8) (oi := ⟨some 37, .extract (.tmp 29) 0, _, _, _, _⟩) (v := (.agg (refC V5 (doS S x)))) rfl (by kernel_rfl) (by kernel_rfl) (by kernel_rfl) (fun _ _ _ h => h) (Or.inl ⟨by rfl, fun W hW => by go_simp⟩) (by assumption) ?_
          simp only [Act.put, List.setIfInBounds_toArray, List.set_cons_zero, List.set_cons_succ]
          refine wpAnyH_take (i := 9) (oi := ⟨some 38, .extract (.tmp 29) 1, _, _, _, _⟩) (v := (.bool true)) rfl (by kernel_rfl) (by kernel_rfl) (by kernel_rfl) (fun _ _ _ h => h) (Or.inl ⟨by rfl, fun W hW => by go_simp⟩) (by assumption) ?_
          simp only [Act.put, List.setIfInBounds_toArray, List.set_cons_zero, List.set_cons_succ]
          refine wpAnyH_ready (rs := [11]) (by kernel_rfl) (by simp) ?_
          refine (AllReadyH.cons (o := ⟨none, .store 31 (.tmp 8) (.tmp 37), _, _, _, _⟩) rfl (fun K hK => ?_) AllReadyH.nil)
          refine ready_stepD (wp_store_row 31 (.tmp 8) (.tmp 37) rfl (wr.heap.size) _ zeroD (refL V5 (doS S x)) rfl rfl Z6.out rfl infoD (refL_one _ _) ?_)
          intro w7 hr7 hg7 _
          have D7 := Lib.hid ((D5.out.chg (Chg.refl.grown hg7 (fun k hk => by cases hk; exact .inl (.inr rfl))) (fun k hk => by
            rcases hk with rfl | rfl
            · exact ⟨NG5.out, HW4.out⟩
            · exact ⟨NW5.out, DU.out.run.2.2.size⟩)).less (X := fun k => k = gr) (fun k hk => .inl hk))
          have N8 := Lib.hid (show wr.heap.size ≠ gr from fun e => by have := LGR.out; omega)
          have R7 := Lib.hid (show RBox w7 gr V S from R6.out.grown hg7 (fun e => N8.out (Option.some.inj e).symm))
          have HR7 := Lib.hid (show RBox w7 wr.heap.size V5 (doS S x) from hr7)
          refine hK.out _ _ ⟨R7.out, D7.out.run.2.2⟩ (fun hHeld => ?_)
          clear hK K hr7 hg7
          refine wpAnyH_take (i := 12) (oi := ⟨some 9, .assign (.tmp 38), _, _, _, _⟩) (v := (.bool true)) rfl (by kernel_rfl) (by kernel_rfl) (by kernel_rfl) (fun _ _ _ h => h) (Or.inl ⟨by rfl, fun W hW => by go_simp⟩) (by assumption) ?_
          simp only [Act.put, List.setIfInBounds_toArray, List.set_cons_zero, List.set_cons_succ]
          refine wpAnyH_done (by kernel_rfl) ?_ _
          go_wp2
          go_meet
          case rel => exact ⟨_, V5, F5, rfl, rfl, D7, R7, HR7, NG5.out, N8.out⟩
      case rest =>
        obtain ⟨g8, V5, F5, rfl, rfl, D9, R9, G9, NG9, N8⟩ := hcut
        have HB60 := Lib.hid (show i + 1 ≤ 61 by omega)
        have NG9 := Lib.hid NG9
        have N8 := Lib.hid N8
        obtain ⟨S5, hS5⟩ : ∃ S5, S5 = doS S x := ⟨_, rfl⟩
        rw [← hS5] at D9 G9 HD
        clear hS5
        have MD9 := Lib.hid D9.out.made
        have HI5 := Lib.hid D9.out.run.1.1
        have HK5 := Lib.hid (show S5.kept.length + S5.acts.length ≤ 1000000 by have := HD.out.dirs; have := HB60.out; omega)
        have HNL := Lib.hid (show S5.now.length ≤ 1000000 from HI5.out.nowLe HK5.out)
        have HLM := Lib.hid (show decide (listS S5 = listR V5 S5) = true from decide_eq_true (by unfold listS listR; rw [MD9.out]; cases S5.down <;> rfl))
        cases hdn : S5.down with
        | true =>
          have HU5 := Lib.hid (show usedT S5 = 0 by unfold usedT; rw [hdn]; rfl)
          go_wp2_with (first
            | (refine load_row rfl 31 _ rfl g8 _ (refL V5 S5) _ rfl G9.out Try.underlying31 rfl infoD ?_)
            | (refine store_row rfl 31 _ _ rfl gr _ (refL V S) (refL V5 S5) rfl rfl R9.out rfl infoD (refL_one _ _) ?_; intro w8 hr8 hg8 _
               have R8 := Lib.hid (show RBox w8 gr V5 S5 from hr8)
               have D8 := Lib.hid (D9.out.chg (Chg.refl.grown hg8 (fun k hk => by cases hk; exact .inl rfl)) (fun k hk => by subst hk; exact ⟨NG9.out, HW4.out⟩))
               obtain ⟨q0, q1, q2, q3, q4, q5, q6, q7, q8, q9⟩ := RBox.cells R8.out
               have MDQ := MD9.out
               rw [MDQ] at q0
               rw [hdn] at q9
               clear hr8 hg8))
          clear q0 q1 q2 q3 q4 q5 q6 q7 q8 q9
          clear MDQ
          have QC := Lib.hid (RBox.cells R8.out)
          have HDN := Lib.hid hdn
          clear hdn
          go_region_held3 (fun W' => W'.cell? ⟨gr, 0, none⟩ = some (.bool V5.made) ∧ W'.cell? ⟨gr, 1, none⟩ = some (.int .i64 V5.q) ∧ W'.cell? ⟨gr, 2, none⟩ = some (.slice V5.af V5.nf V5.cf) ∧ W'.cell? ⟨gr, 3, none⟩ = some (.slice V5.ay V5.ny V5.cy) ∧ W'.cell? ⟨gr, 4, none⟩ = some (.slice V5.an V5.nn V5.cn) ∧ W'.cell? ⟨gr, 5, none⟩ = some (.slice V5.ak V5.nk V5.ck) ∧ W'.cell? ⟨gr, 6, none⟩ = some (.slice V5.aa V5.na V5.ca) ∧ W'.cell? ⟨gr, 7, none⟩ = some (.int .i64 (S5.refused : Int)) ∧ W'.cell? ⟨gr, 8, none⟩ = some (.int .i64 (S5.arm : Int)) ∧ W'.cell? ⟨gr, 9, none⟩ = some (.bool S5.down)) (first | exact QC.out | exact PC9.out | exact PC10.out | exact PC11.out) (first
            | (go_simp; go_at_call 10; (refine (list_any (D8.out.run.below (Below.refl _ _).drew).1 HK5.out).mono ?_); rintro e w9 ⟨a9, c9, rfl, ha9, hb9, _⟩
               have B9 := Lib.hid (show Below w8.heap.size w8 w9 from (Below.refl _ _).drew.trans hb9)
               have A9 := Lib.hid ha9
               have PC9 := Lib.hid (RBox.cells (RBox.below R8.out B9.out))
               clear hb9 ha9)
            | (go_simp; go_at_call 11; (refine (refList_any V5 S5 w9 (D8.out.below B9.out).inn.now HNL.out).mono ?_); rintro e w10 ⟨a10, c10, rfl, ha10, hb10, _⟩
               have B10 := Lib.hid (B9.out.trans (hb10.mono B9.out.size))
               have A10 := Lib.hid ha10
               have A9' := Lib.hid (A9.out.below hb10)
               have PC10 := Lib.hid (RBox.cells (RBox.below R8.out B10.out))
               clear hb10 ha10)
            | (go_simp; go_at_call 9; (refine (refTexts_any _ _ _ _ _ _ _ _ _ A9'.out A10.out).mono ?_); rintro e w11 ⟨rfl, hb11⟩; rw [HLM.out]
               have B11 := Lib.hid (B10.out.trans (hb11.mono B10.out.size))
               have D11 := Lib.hid (D8.out.below B11.out)
               have R11 := Lib.hid (RBox.below R8.out B11.out)
               have PC11 := Lib.hid (RBox.cells R11.out)
               clear hb11)
            | (go_simp; go_at_call 12; (refine (used_run D11.out.run HU5.out).mono ?_); rintro e w12 ⟨rfl, rfl⟩)
            | (go_simp; go_at_call 13; (refine (down_any D11.out.run.1).mono ?_); rintro e w12 ⟨rfl, rfl⟩)
            | (go_simp; go_at_call 14; (refine (refused_any D11.out.run.1).mono ?_); rintro e w12 ⟨rfl, rfl⟩))
          all_goals (
            go_wp2
            go_roundg (gk - 1)
            case measure => have := HGN.out; omega
            case rel => exact ⟨i + 1, F5, V5, S5, D11.out, R11.out, NG9.out, HD.out, by go_num, by have := HGN.out; omega⟩)
        | false =>
          have HU5 := Lib.hid (show usedT S5 = usedS S5 by unfold usedT; rw [hdn]; rfl)
          have HF5 := Lib.hid (show Few S5 1000 from HD.out.mono (by have := HB60.out; omega))
          go_wp2_with (first
            | (refine load_row rfl 31 _ rfl g8 _ (refL V5 S5) _ rfl G9.out Try.underlying31 rfl infoD ?_)
            | (refine store_row rfl 31 _ _ rfl gr _ (refL V S) (refL V5 S5) rfl rfl R9.out rfl infoD (refL_one _ _) ?_; intro w8 hr8 hg8 _
               have R8 := Lib.hid (show RBox w8 gr V5 S5 from hr8)
               have D8 := Lib.hid (D9.out.chg (Chg.refl.grown hg8 (fun k hk => by cases hk; exact .inl rfl)) (fun k hk => by subst hk; exact ⟨NG9.out, HW4.out⟩))
               obtain ⟨q0, q1, q2, q3, q4, q5, q6, q7, q8, q9⟩ := RBox.cells R8.out
               have MDQ := MD9.out
               rw [MDQ] at q0
               rw [hdn] at q9
               clear hr8 hg8)
            | (refine load_row rfl 31 _ rfl gr _ (refL V5 S5) _ rfl R8.out Try.underlying31 rfl infoD ?_)
            | (go_at_call 8; (with_reducible refine (refUsed_any V5 S5 _ D8.out.inn HI5.out HF5.out).mono ?_); rintro e w8' ⟨rfl, hb8⟩
               have D8' := Lib.hid (D8.out.below hb8)
               have R8' := Lib.hid (RBox.below R8.out hb8)
               clear hb8 q0 q1 q2 q3 q4 q5 q6 q7 q8 q9))
          clear MDQ
          have QC := Lib.hid (RBox.cells R8'.out)
          have HDN := Lib.hid hdn
          clear hdn
          go_region_held3 (fun W' => W'.cell? ⟨gr, 0, none⟩ = some (.bool V5.made) ∧ W'.cell? ⟨gr, 1, none⟩ = some (.int .i64 V5.q) ∧ W'.cell? ⟨gr, 2, none⟩ = some (.slice V5.af V5.nf V5.cf) ∧ W'.cell? ⟨gr, 3, none⟩ = some (.slice V5.ay V5.ny V5.cy) ∧ W'.cell? ⟨gr, 4, none⟩ = some (.slice V5.an V5.nn V5.cn) ∧ W'.cell? ⟨gr, 5, none⟩ = some (.slice V5.ak V5.nk V5.ck) ∧ W'.cell? ⟨gr, 6, none⟩ = some (.slice V5.aa V5.na V5.ca) ∧ W'.cell? ⟨gr, 7, none⟩ = some (.int .i64 (S5.refused : Int)) ∧ W'.cell? ⟨gr, 8, none⟩ = some (.int .i64 (S5.arm : Int)) ∧ W'.cell? ⟨gr, 9, none⟩ = some (.bool S5.down)) (first | exact QC.out | exact PC9.out | exact PC10.out | exact PC11.out) (first
            | (go_simp; go_at_call 10; (refine (list_any (D8'.out.run.below (Below.refl _ _).drew).1 HK5.out).mono ?_); rintro e w9 ⟨a9, c9, rfl, ha9, hb9, _⟩
               have B9 := Lib.hid (show Below w8'.heap.size w8' w9 from (Below.refl _ _).drew.trans hb9)
               have A9 := Lib.hid ha9
               have PC9 := Lib.hid (RBox.cells (RBox.below R8'.out B9.out))
               clear hb9 ha9)
            | (go_simp; go_at_call 11; (refine (refList_any V5 S5 w9 (D8'.out.below B9.out).inn.now HNL.out).mono ?_); rintro e w10 ⟨a10, c10, rfl, ha10, hb10, _⟩
               have B10 := Lib.hid (B9.out.trans (hb10.mono B9.out.size))
               have A10 := Lib.hid ha10
               have A9' := Lib.hid (A9.out.below hb10)
               have PC10 := Lib.hid (RBox.cells (RBox.below R8'.out B10.out))
               clear hb10 ha10)
            | (go_simp; go_at_call 9; (refine (refTexts_any _ _ _ _ _ _ _ _ _ A9'.out A10.out).mono ?_); rintro e w11 ⟨rfl, hb11⟩; rw [HLM.out]
               have B11 := Lib.hid (B10.out.trans (hb11.mono B10.out.size))
               have D11 := Lib.hid (D8'.out.below B11.out)
               have R11 := Lib.hid (RBox.below R8'.out B11.out)
               have PC11 := Lib.hid (RBox.cells R11.out)
               clear hb11)
            | (go_simp; go_at_call 12; (refine (used_run D11.out.run HU5.out).mono ?_); rintro e w12 ⟨rfl, rfl⟩)
            | (go_simp; go_at_call 13; (refine (down_any D11.out.run.1).mono ?_); rintro e w12 ⟨rfl, rfl⟩)
            | (go_simp; go_at_call 14; (refine (refused_any D11.out.run.1).mono ?_); rintro e w12 ⟨rfl, rfl⟩))
          all_goals (
            go_wp2
            go_roundg (gk - 1)
            case measure => have := HGN.out; omega
            case rel => exact ⟨i + 1, F5, V5, S5, D11.out, R11.out, NG9.out, HD.out, by go_num, by have := HGN.out; omega⟩)
    · clear hD hR hNG hF hg
      go_wp2_with (go_at_call 15; (with_reducible refine (awake_any _).mono ?_); rintro e w9 ⟨rfl, hb9⟩)
      go_ret
      exact ⟨rfl, DU.out.run.2.2.trans (hb9.mono DU.out.run.2.2.size)⟩
#print axioms diskPlays_yes
end Go.Proofs.Ytemphljkfpkgmaa
