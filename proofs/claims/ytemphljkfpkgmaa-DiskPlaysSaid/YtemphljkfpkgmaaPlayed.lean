/-
  An act played on both disks: the program's and the reference's.
-/
import Derived.Test.YtemphljkfpkgmaaPlayHalf
import Derived.Deep.CutRange
namespace Go.Proofs.Ytemphljkfpkgmaa
open Go.RowKit Go.Maps

set_option maxRecDepth 100000 in
set_option maxHeartbeats 4000000 in
theorem played_yes (x : ActV) (w W : World) (F X : Nat → Prop) (db : Nat) (V : RVal) (S : DS) (D : Duo w W F X db V S) (hX : ∀ k, X k → k < W.heap.size) (hx : ActIn w x) (hm : x.m ≤ 300) (hm5 : x.m5 ≤ 100) (hf : Few S 900) :
    Calls Try.prog 7 #[Pt db, .agg (refC V S), .agg x.cells] W (PlayEnd w W F X db V.q (doS S x)) := by
  obtain ⟨Y, hY⟩ : ∃ Y, Y = doS S x := ⟨_, rfl⟩
  have HYS := Lib.hid (hY ▸ do_same S x D.arm hx.nI)
  rw [← hY]
  obtain ⟨z, s, t, a, m, c, b, n, a5, m5, c5, fs⟩ := x
  unfold doS at hY
  simp only at hY hm hm5
  have hrg := rem_range z
  have HBY := Lib.hid hx.bytes
  have HFT := Lib.hid hx.fates
  have HNI := Lib.hid hx.nI
  have HFI := Lib.hid hx.fI
  simp only at HBY HFT HNI HFI
  have HDU := Lib.hid D
  have HXL := Lib.hid hX
  have HM := Lib.hid hm
  have HM5 := Lib.hid hm5
  have HF := Lib.hid hf
  have HFD := Lib.hid (show S.kept.length + S.acts.length ≤ 1000000 by have := hf.dirs; omega)
  have HFR := Lib.hid (show S.refused ≤ 1000000 by have := hf.refused; omega)
  have HIV := Lib.hid D.run.1.1
  clear D hx hX hm hm5 hf
  have hq : ((wrap64 (z.tmod 7 + 7)).tmod 7 = 0 ∨ (wrap64 (z.tmod 7 + 7)).tmod 7 = 1 ∨ (wrap64 (z.tmod 7 + 7)).tmod 7 = 2 ∨ (wrap64 (z.tmod 7 + 7)).tmod 7 = 3 ∨ (wrap64 (z.tmod 7 + 7)).tmod 7 = 4 ∨ (wrap64 (z.tmod 7 + 7)).tmod 7 = 5 ∨ (wrap64 (z.tmod 7 + 7)).tmod 7 = 6) := by omega
  clear hrg
  rcases hq with hq | hq | hq | hq | hq | hq | hq
  · rw [hq] at hY
    simp at hY
    go_enter Try.func7, Try.ntmps7
    go_wp2_with (first
      | ((with_reducible show wpList _ _ _ (⟨some 4, _, _, _, _, _⟩ :: _) _ _); refine box_row rfl 31 (.tmp 1) (refL V S) rfl rfl ?_; intro w1 hr1 hb1 hs1; have HB1 := Lib.hid hb1; have HR1 := Lib.hid (show RBox w1 W.heap.size V S from hr1); have HS1 := Lib.hid hs1; clear hb1 hr1 hs1)
      | ((with_reducible show wpList _ _ _ (⟨some 5, _, _, _, _, _⟩ :: _) _ _); refine box_row rfl 37 (.tmp 2) [.int .i64 z, .string s, .string t, .slice a m c, .int .i64 n, .slice a5 m5 c5] rfl rfl ?_; intro w2 hr2 hb2 hs2; have HB2 := Lib.hid (HB1.out.trans (hb2.mono HB1.out.size)); have HR2 := Lib.hid (RBox.below HR1.out hb2); have HX := Lib.hid hr2; have HS2 := Lib.hid hs2; clear hb2 hr2 hs2)
      | ((with_reducible show wpList _ _ _ (⟨some 6, _, _, _, _, _⟩ :: _) _ _); refine alloc_row rfl 31 zeroD rfl zero_disk ?_; intro w3 hr3 hb3 hs3
         have HB3 := Lib.hid (HB2.out.trans (hb3.mono HB2.out.size))
         have HG := Lib.hid (show W.heap.size < w1.heap.size ∧ w1.heap.size < w2.heap.size ∧ w2.heap.size < w3.heap.size by have := HS1.out; have := HS2.out; omega)
         have H3 := Lib.hid (HDU.out.half HXL.out HB3.out (RBox.below HR2.out hb3) (RowAt.below HX.out hb3) hr3 (Nat.le_refl _) HG.out.1 HG.out.2.1)
         have RUN3 := Lib.hid H3.out.run.1
         obtain ⟨k0, k1, k2, k3, k4, k5⟩ := H3.out.seen
         dsimp only [List.getElem?_cons_zero, List.getElem?_cons_succ] at k0 k1 k2 k3 k4 k5
         clear hr3 hb3 hs3))
    have HA := Lib.hid (H3.out.below ((Below.refl _ _).alloc (Nat.le_refl _) (.cells #[] 5)))
    obtain ⟨m0, m1, m2, m3, m4, m5'⟩ := HA.out.seen
    dsimp only [List.getElem?_cons_zero, List.getElem?_cons_succ] at m0 m1 m2 m3 m4 m5'
    have HLB := Lib.hid HDU.out.run.1.lt
    go_cut [9] from 21 to 29 (fun v W' => v = Value.int .i64 ((appendS S s.data.toList b).2 : Int) ∧ ∃ F2, Hid (Half w W F X W' F2 db W.heap.size w1.heap.size w2.heap.size V S (appendS S s.data.toList b).1 [.int .i64 z, .string s, .string t, .slice a m c, .int .i64 n, .slice a5 m5 c5]))
    case first =>
      go_region_law (first
        | ((refine wp_appG byteK Try.underlying35 byteInfo rfl _ _ rfl w3.heap.size (.slice (some ⟨w3.heap.size, 0, none⟩) 0 0) [] rfl (OwnG.lit rfl _ rfl) a m c b rfl (at_of_bytes (HBY.out.below (H3.out.run.2.2.trans (((Below.refl _ _).drew.alloc (Nat.le_refl _) _).mono H3.out.run.2.2.size)))) (by have := HM.out; simp; omega) (by simp) m (by simp) ?_); intro aC cC wC hoC hgC
           have HBC := Lib.hid (show Below w3.heap.size w3 wC from ((Below.refl _ _).drew.alloc (Nat.le_refl _) (.cells #[] 5)).grown hgC (by simp) (fun k hk => by cases hk; exact Nat.le_refl _))
           have HOC := Lib.hid (own_of_byte hoC)
           have HC := Lib.hid (H3.out.below HBC.out)
           have RUNC := Lib.hid HC.out.run.1
           have HLW := Lib.hid (show ∀ k, F k → k < w3.heap.size from fun k hk => Nat.lt_of_lt_of_le (HLB.out k hk) HB3.out.size)
           obtain ⟨j0, j1, j2, j3, j4, j5⟩ := HC.out.seen
           dsimp only [List.getElem?_cons_zero, List.getElem?_cons_succ] at j0 j1 j2 j3 j4 j5
           clear hoC hgC)
        | (go_simp; go_at_call 16; (with_reducible refine (append_any s aC m cC b RUNC.out HFD.out HFR.out (own_apart HOC.out HLW.out)).mono ?_); rintro e4 w4 ⟨rfl, F2, hst, hd4⟩
           have H4 := Lib.hid (HC.out.step hst hd4)
           clear j0 j1 j2 j3 j4 j5 hst hd4))
      all_goals (
        go_wp2
        go_meet
        case rel => exact ⟨rfl, F2, H4⟩)
    case rest =>
      obtain ⟨rfl, F2, H4⟩ := hcut
      obtain ⟨k0, k1, k2, k3, k4, k5⟩ := H4.out.seen
      dsimp only [List.getElem?_cons_zero, List.getElem?_cons_succ] at k0 k1 k2 k3 k4 k5
      have HB4 := Lib.hid (HBY.out.below (H4.out.run.2.2))
      clear m0 m1 m2 m3 m4 m5'
      go_wp2_with (first
        | (refine load_row rfl 31 _ rfl W.heap.size _ (refL V S) _ rfl H4.out.r Try.underlying31 rfl infoD ?_)
        | (go_at_call 17; (with_reducible refine (refAppend_s s a m c b H4.out.inn HB4.out HM.out HDU.out.made HDU.out.quota HIV.out HF.out HDU.out.arm).mono ?_); rintro e5 w5 ⟨V5, rfl, hm5, hq5, hn5, hb5⟩
           have M5 := Lib.hid (hm5.trans HDU.out.made)
           have Q5 := Lib.hid hq5
           have N5 := Lib.hid hn5
           have B5 := Lib.hid hb5
           have H5 := Lib.hid (H4.out.below hb5)
           clear k0 k1 k2 k3 k4 k5 hm5 hq5 hn5 hb5)
        | ((with_reducible show wpList _ _ _ (⟨none, .store _ (.tmp 4) _, _, _, _, _⟩ :: _) _ _); refine store_row rfl 31 _ _ rfl W.heap.size _ (refL V S) (refL V5 (appendS S s.data.toList b).1) rfl rfl H5.out.r rfl infoD (refL_one _ _) ?_; intro w6 hr6 hg6 hs6
           have R6 := Lib.hid (show RBox w6 W.heap.size V5 (appendS S s.data.toList b).1 from hr6)
           have Z6 := Lib.hid (H5.out.z.grown hg6 (fun e => H5.out.rz (Option.some.inj e).symm))
           have G6 := Lib.hid hg6
           clear hr6 hg6 hs6)
        | (refine load_row rfl 31 _ rfl W.heap.size _ (refL V5 (appendS S s.data.toList b).1) _ rfl R6.out Try.underlying31 rfl infoD ?_)
        | (refine store_row rfl 31 _ _ rfl w2.heap.size _ zeroD (refL V5 (appendS S s.data.toList b).1) rfl rfl Z6.out rfl infoD (refL_one _ _) ?_; intro w7 hr7 hg7 _; have HR7 := Lib.hid hr7; have G7 := Lib.hid hg7; clear hr7 hg7))
      refine bodyPost_ret (results_ref2 rfl _ _ w2.heap.size V5 (appendS S s.data.toList b).1 rfl HR7.out) rfl ⟨V5, F2, by rw [hY]; rfl, Q5.out, ?_⟩
      rw [hY]
      exact H4.out.done N5.out B5.out (grown2 G6.out G7.out) M5.out (by rw [Q5.out, HDU.out.quota, ← hY, HYS.out.1]) (hY ▸ HYS.out.2)
  · rw [hq] at hY
    simp at hY
    go_enter Try.func7, Try.ntmps7
    go_wp2_with (first
      | ((with_reducible show wpList _ _ _ (⟨some 4, _, _, _, _, _⟩ :: _) _ _); refine box_row rfl 31 (.tmp 1) (refL V S) rfl rfl ?_; intro w1 hr1 hb1 hs1; have HB1 := Lib.hid hb1; have HR1 := Lib.hid (show RBox w1 W.heap.size V S from hr1); have HS1 := Lib.hid hs1; clear hb1 hr1 hs1)
      | ((with_reducible show wpList _ _ _ (⟨some 5, _, _, _, _, _⟩ :: _) _ _); refine box_row rfl 37 (.tmp 2) [.int .i64 z, .string s, .string t, .slice a m c, .int .i64 n, .slice a5 m5 c5] rfl rfl ?_; intro w2 hr2 hb2 hs2; have HB2 := Lib.hid (HB1.out.trans (hb2.mono HB1.out.size)); have HR2 := Lib.hid (RBox.below HR1.out hb2); have HX := Lib.hid hr2; have HS2 := Lib.hid hs2; clear hb2 hr2 hs2)
      | ((with_reducible show wpList _ _ _ (⟨some 6, _, _, _, _, _⟩ :: _) _ _); refine alloc_row rfl 31 zeroD rfl zero_disk ?_; intro w3 hr3 hb3 hs3
         have HB3 := Lib.hid (HB2.out.trans (hb3.mono HB2.out.size))
         have HG := Lib.hid (show W.heap.size < w1.heap.size ∧ w1.heap.size < w2.heap.size ∧ w2.heap.size < w3.heap.size by have := HS1.out; have := HS2.out; omega)
         have H3 := Lib.hid (HDU.out.half HXL.out HB3.out (RBox.below HR2.out hb3) (RowAt.below HX.out hb3) hr3 (Nat.le_refl _) HG.out.1 HG.out.2.1)
         have RUN3 := Lib.hid H3.out.run.1
         obtain ⟨k0, k1, k2, k3, k4, k5⟩ := H3.out.seen
         dsimp only [List.getElem?_cons_zero, List.getElem?_cons_succ] at k0 k1 k2 k3 k4 k5
         clear hr3 hb3 hs3)
      | (go_at_call 18; (with_reducible refine (sync_any s RUN3.out HFD.out).mono ?_); rintro e4 w4 ⟨rfl, F2, hst, hd4⟩
         have H4 := Lib.hid (H3.out.step hst hd4)
         clear k0 k1 k2 k3 k4 k5 hst hd4
         obtain ⟨k0, k1, k2, k3, k4, k5⟩ := H4.out.seen
         dsimp only [List.getElem?_cons_zero, List.getElem?_cons_succ] at k0 k1 k2 k3 k4 k5)
      | (refine load_row rfl 31 _ rfl W.heap.size _ (refL V S) _ rfl H4.out.r Try.underlying31 rfl infoD ?_)
      | (go_at_call 19; (with_reducible refine (refSync_s s H4.out.inn HDU.out.made HIV.out HF.out HDU.out.arm).mono ?_); rintro e5 w5 ⟨V5, rfl, hm5, hq5, hn5, hb5⟩
         have M5 := Lib.hid (hm5.trans HDU.out.made)
         have Q5 := Lib.hid hq5
         have N5 := Lib.hid hn5
         have B5 := Lib.hid hb5
         have H5 := Lib.hid (H4.out.below hb5)
         clear k0 k1 k2 k3 k4 k5 hm5 hq5 hn5 hb5)
      | ((with_reducible show wpList _ _ _ (⟨none, .store _ (.tmp 4) _, _, _, _, _⟩ :: _) _ _); refine store_row rfl 31 _ _ rfl W.heap.size _ (refL V S) (refL V5 (syncS S s.data.toList).1) rfl rfl H5.out.r rfl infoD (refL_one _ _) ?_; intro w6 hr6 hg6 hs6
         have R6 := Lib.hid (show RBox w6 W.heap.size V5 (syncS S s.data.toList).1 from hr6)
         have Z6 := Lib.hid (H5.out.z.grown hg6 (fun e => H5.out.rz (Option.some.inj e).symm))
         have G6 := Lib.hid hg6
         clear hr6 hg6 hs6)
      | (refine load_row rfl 31 _ rfl W.heap.size _ (refL V5 (syncS S s.data.toList).1) _ rfl R6.out Try.underlying31 rfl infoD ?_)
      | (refine store_row rfl 31 _ _ rfl w2.heap.size _ zeroD (refL V5 (syncS S s.data.toList).1) rfl rfl Z6.out rfl infoD (refL_one _ _) ?_; intro w7 hr7 hg7 _; have HR7 := Lib.hid hr7; have G7 := Lib.hid hg7; clear hr7 hg7))
    refine bodyPost_ret (results_ref2 rfl _ _ w2.heap.size V5 (syncS S s.data.toList).1 rfl HR7.out) rfl ⟨V5, F2, by rw [hY]; rfl, Q5.out, ?_⟩
    rw [hY]
    exact H4.out.done N5.out B5.out (grown2 G6.out G7.out) M5.out (by rw [Q5.out, HDU.out.quota, ← hY, HYS.out.1]) (hY ▸ HYS.out.2)
  · rw [hq] at hY
    simp at hY
    go_enter Try.func7, Try.ntmps7
    go_wp2_with (first
      | ((with_reducible show wpList _ _ _ (⟨some 4, _, _, _, _, _⟩ :: _) _ _); refine box_row rfl 31 (.tmp 1) (refL V S) rfl rfl ?_; intro w1 hr1 hb1 hs1; have HB1 := Lib.hid hb1; have HR1 := Lib.hid (show RBox w1 W.heap.size V S from hr1); have HS1 := Lib.hid hs1; clear hb1 hr1 hs1)
      | ((with_reducible show wpList _ _ _ (⟨some 5, _, _, _, _, _⟩ :: _) _ _); refine box_row rfl 37 (.tmp 2) [.int .i64 z, .string s, .string t, .slice a m c, .int .i64 n, .slice a5 m5 c5] rfl rfl ?_; intro w2 hr2 hb2 hs2; have HB2 := Lib.hid (HB1.out.trans (hb2.mono HB1.out.size)); have HR2 := Lib.hid (RBox.below HR1.out hb2); have HX := Lib.hid hr2; have HS2 := Lib.hid hs2; clear hb2 hr2 hs2)
      | ((with_reducible show wpList _ _ _ (⟨some 6, _, _, _, _, _⟩ :: _) _ _); refine alloc_row rfl 31 zeroD rfl zero_disk ?_; intro w3 hr3 hb3 hs3
         have HB3 := Lib.hid (HB2.out.trans (hb3.mono HB2.out.size))
         have HG := Lib.hid (show W.heap.size < w1.heap.size ∧ w1.heap.size < w2.heap.size ∧ w2.heap.size < w3.heap.size by have := HS1.out; have := HS2.out; omega)
         have H3 := Lib.hid (HDU.out.half HXL.out HB3.out (RBox.below HR2.out hb3) (RowAt.below HX.out hb3) hr3 (Nat.le_refl _) HG.out.1 HG.out.2.1)
         have RUN3 := Lib.hid H3.out.run.1
         obtain ⟨k0, k1, k2, k3, k4, k5⟩ := H3.out.seen
         dsimp only [List.getElem?_cons_zero, List.getElem?_cons_succ] at k0 k1 k2 k3 k4 k5
         clear hr3 hb3 hs3)
      | (go_at_call 20; (with_reducible refine (rename_any s t RUN3.out HFD.out).mono ?_); rintro e4 w4 ⟨rfl, F2, hst, hd4⟩
         have H4 := Lib.hid (H3.out.step hst hd4)
         clear k0 k1 k2 k3 k4 k5 hst hd4
         obtain ⟨k0, k1, k2, k3, k4, k5⟩ := H4.out.seen
         dsimp only [List.getElem?_cons_zero, List.getElem?_cons_succ] at k0 k1 k2 k3 k4 k5)
      | (refine load_row rfl 31 _ rfl W.heap.size _ (refL V S) _ rfl H4.out.r Try.underlying31 rfl infoD ?_)
      | (go_at_call 21; (with_reducible refine (refTurn_s s t H4.out.inn HDU.out.made HIV.out HF.out HDU.out.arm).mono ?_); rintro e5 w5 ⟨V5, rfl, hm5, hq5, hn5, hb5⟩
         have M5 := Lib.hid (hm5.trans HDU.out.made)
         have Q5 := Lib.hid hq5
         have N5 := Lib.hid hn5
         have B5 := Lib.hid hb5
         have H5 := Lib.hid (H4.out.below hb5)
         clear k0 k1 k2 k3 k4 k5 hm5 hq5 hn5 hb5)
      | ((with_reducible show wpList _ _ _ (⟨none, .store _ (.tmp 4) _, _, _, _, _⟩ :: _) _ _); refine store_row rfl 31 _ _ rfl W.heap.size _ (refL V S) (refL V5 (turnS S s.data.toList t.data.toList t.data.toList).1) rfl rfl H5.out.r rfl infoD (refL_one _ _) ?_; intro w6 hr6 hg6 hs6
         have R6 := Lib.hid (show RBox w6 W.heap.size V5 (turnS S s.data.toList t.data.toList t.data.toList).1 from hr6)
         have Z6 := Lib.hid (H5.out.z.grown hg6 (fun e => H5.out.rz (Option.some.inj e).symm))
         have G6 := Lib.hid hg6
         clear hr6 hg6 hs6)
      | (refine load_row rfl 31 _ rfl W.heap.size _ (refL V5 (turnS S s.data.toList t.data.toList t.data.toList).1) _ rfl R6.out Try.underlying31 rfl infoD ?_)
      | (refine store_row rfl 31 _ _ rfl w2.heap.size _ zeroD (refL V5 (turnS S s.data.toList t.data.toList t.data.toList).1) rfl rfl Z6.out rfl infoD (refL_one _ _) ?_; intro w7 hr7 hg7 _; have HR7 := Lib.hid hr7; have G7 := Lib.hid hg7; clear hr7 hg7))
    refine bodyPost_ret (results_ref2 rfl _ _ w2.heap.size V5 (turnS S s.data.toList t.data.toList t.data.toList).1 rfl HR7.out) rfl ⟨V5, F2, by rw [hY]; rfl, Q5.out, ?_⟩
    rw [hY]
    exact H4.out.done N5.out B5.out (grown2 G6.out G7.out) M5.out (by rw [Q5.out, HDU.out.quota, ← hY, HYS.out.1]) (hY ▸ HYS.out.2)
  · rw [hq] at hY
    simp at hY
    go_enter Try.func7, Try.ntmps7
    go_wp2_with (first
      | ((with_reducible show wpList _ _ _ (⟨some 4, _, _, _, _, _⟩ :: _) _ _); refine box_row rfl 31 (.tmp 1) (refL V S) rfl rfl ?_; intro w1 hr1 hb1 hs1; have HB1 := Lib.hid hb1; have HR1 := Lib.hid (show RBox w1 W.heap.size V S from hr1); have HS1 := Lib.hid hs1; clear hb1 hr1 hs1)
      | ((with_reducible show wpList _ _ _ (⟨some 5, _, _, _, _, _⟩ :: _) _ _); refine box_row rfl 37 (.tmp 2) [.int .i64 z, .string s, .string t, .slice a m c, .int .i64 n, .slice a5 m5 c5] rfl rfl ?_; intro w2 hr2 hb2 hs2; have HB2 := Lib.hid (HB1.out.trans (hb2.mono HB1.out.size)); have HR2 := Lib.hid (RBox.below HR1.out hb2); have HX := Lib.hid hr2; have HS2 := Lib.hid hs2; clear hb2 hr2 hs2)
      | ((with_reducible show wpList _ _ _ (⟨some 6, _, _, _, _, _⟩ :: _) _ _); refine alloc_row rfl 31 zeroD rfl zero_disk ?_; intro w3 hr3 hb3 hs3
         have HB3 := Lib.hid (HB2.out.trans (hb3.mono HB2.out.size))
         have HG := Lib.hid (show W.heap.size < w1.heap.size ∧ w1.heap.size < w2.heap.size ∧ w2.heap.size < w3.heap.size by have := HS1.out; have := HS2.out; omega)
         have H3 := Lib.hid (HDU.out.half HXL.out HB3.out (RBox.below HR2.out hb3) (RowAt.below HX.out hb3) hr3 (Nat.le_refl _) HG.out.1 HG.out.2.1)
         have RUN3 := Lib.hid H3.out.run.1
         obtain ⟨k0, k1, k2, k3, k4, k5⟩ := H3.out.seen
         dsimp only [List.getElem?_cons_zero, List.getElem?_cons_succ] at k0 k1 k2 k3 k4 k5
         clear hr3 hb3 hs3)
      | (go_at_call 22; (with_reducible refine (remove_any s RUN3.out HFD.out).mono ?_); rintro e4 w4 ⟨rfl, F2, hst, hd4⟩
         have H4 := Lib.hid (H3.out.step hst hd4)
         clear k0 k1 k2 k3 k4 k5 hst hd4
         obtain ⟨k0, k1, k2, k3, k4, k5⟩ := H4.out.seen
         dsimp only [List.getElem?_cons_zero, List.getElem?_cons_succ] at k0 k1 k2 k3 k4 k5)
      | (refine load_row rfl 31 _ rfl W.heap.size _ (refL V S) _ rfl H4.out.r Try.underlying31 rfl infoD ?_)
      | (go_at_call 21; (with_reducible refine (refDrop_s s H4.out.inn HDU.out.made HIV.out HF.out HDU.out.arm).mono ?_); rintro e5 w5 ⟨V5, rfl, hm5, hq5, hn5, hb5⟩
         have M5 := Lib.hid (hm5.trans HDU.out.made)
         have Q5 := Lib.hid hq5
         have N5 := Lib.hid hn5
         have B5 := Lib.hid hb5
         have H5 := Lib.hid (H4.out.below hb5)
         clear k0 k1 k2 k3 k4 k5 hm5 hq5 hn5 hb5)
      | ((with_reducible show wpList _ _ _ (⟨none, .store _ (.tmp 4) _, _, _, _, _⟩ :: _) _ _); refine store_row rfl 31 _ _ rfl W.heap.size _ (refL V S) (refL V5 (turnS S s.data.toList s.data.toList []).1) rfl rfl H5.out.r rfl infoD (refL_one _ _) ?_; intro w6 hr6 hg6 hs6
         have R6 := Lib.hid (show RBox w6 W.heap.size V5 (turnS S s.data.toList s.data.toList []).1 from hr6)
         have Z6 := Lib.hid (H5.out.z.grown hg6 (fun e => H5.out.rz (Option.some.inj e).symm))
         have G6 := Lib.hid hg6
         clear hr6 hg6 hs6)
      | (refine load_row rfl 31 _ rfl W.heap.size _ (refL V5 (turnS S s.data.toList s.data.toList []).1) _ rfl R6.out Try.underlying31 rfl infoD ?_)
      | (refine store_row rfl 31 _ _ rfl w2.heap.size _ zeroD (refL V5 (turnS S s.data.toList s.data.toList []).1) rfl rfl Z6.out rfl infoD (refL_one _ _) ?_; intro w7 hr7 hg7 _; have HR7 := Lib.hid hr7; have G7 := Lib.hid hg7; clear hr7 hg7))
    refine bodyPost_ret (results_ref2 rfl _ _ w2.heap.size V5 (turnS S s.data.toList s.data.toList []).1 rfl HR7.out) rfl ⟨V5, F2, by rw [hY]; rfl, Q5.out, ?_⟩
    rw [hY]
    exact H4.out.done N5.out B5.out (grown2 G6.out G7.out) M5.out (by rw [Q5.out, HDU.out.quota, ← hY, HYS.out.1]) (hY ▸ HYS.out.2)
  · rw [hq] at hY
    simp at hY
    go_enter Try.func7, Try.ntmps7
    go_wp2_with (first
      | ((with_reducible show wpList _ _ _ (⟨some 4, _, _, _, _, _⟩ :: _) _ _); refine box_row rfl 31 (.tmp 1) (refL V S) rfl rfl ?_; intro w1 hr1 hb1 hs1; have HB1 := Lib.hid hb1; have HR1 := Lib.hid (show RBox w1 W.heap.size V S from hr1); have HS1 := Lib.hid hs1; clear hb1 hr1 hs1)
      | ((with_reducible show wpList _ _ _ (⟨some 5, _, _, _, _, _⟩ :: _) _ _); refine box_row rfl 37 (.tmp 2) [.int .i64 z, .string s, .string t, .slice a m c, .int .i64 n, .slice a5 m5 c5] rfl rfl ?_; intro w2 hr2 hb2 hs2; have HB2 := Lib.hid (HB1.out.trans (hb2.mono HB1.out.size)); have HR2 := Lib.hid (RBox.below HR1.out hb2); have HX := Lib.hid hr2; have HS2 := Lib.hid hs2; clear hb2 hr2 hs2)
      | ((with_reducible show wpList _ _ _ (⟨some 6, _, _, _, _, _⟩ :: _) _ _); refine alloc_row rfl 31 zeroD rfl zero_disk ?_; intro w3 hr3 hb3 hs3
         have HB3 := Lib.hid (HB2.out.trans (hb3.mono HB2.out.size))
         have HG := Lib.hid (show W.heap.size < w1.heap.size ∧ w1.heap.size < w2.heap.size ∧ w2.heap.size < w3.heap.size by have := HS1.out; have := HS2.out; omega)
         have H3 := Lib.hid (HDU.out.half HXL.out HB3.out (RBox.below HR2.out hb3) (RowAt.below HX.out hb3) hr3 (Nat.le_refl _) HG.out.1 HG.out.2.1)
         have RUN3 := Lib.hid H3.out.run.1
         obtain ⟨k0, k1, k2, k3, k4, k5⟩ := H3.out.seen
         dsimp only [List.getElem?_cons_zero, List.getElem?_cons_succ] at k0 k1 k2 k3 k4 k5
         clear hr3 hb3 hs3)
      | (go_at_call 23; (with_reducible refine (read_any s RUN3.out).mono ?_); rintro e4 w4 ⟨a4, n4, c4, rfl, ho4, hb4⟩
         have H4 := Lib.hid (H3.out.below hb4)
         have O4 := Lib.hid ho4
         clear k0 k1 k2 k3 k4 k5 hb4 ho4
         obtain ⟨k0, k1, k2, k3, k4, k5⟩ := H4.out.seen
         dsimp only [List.getElem?_cons_zero, List.getElem?_cons_succ] at k0 k1 k2 k3 k4 k5)
      | (refine load_row rfl 31 _ rfl W.heap.size _ (refL V S) _ rfl H4.out.r Try.underlying31 rfl infoD ?_)
      | (go_at_call 24; (with_reducible refine (refRead_s s H4.out.inn HDU.out.made HIV.out HF.out).mono ?_); rintro e5 w5 ⟨a5', n5', c5', rfl, ho5, hb5⟩
         have H5 := Lib.hid (H4.out.below hb5)
         have HB5 := Lib.hid hb5
         have H5R := Lib.hid H5.out.r
         have H5Z := Lib.hid H5.out.z
         have s4 := run_str (O4.out.isBytes.below hb5) 9 Try.underlying9
         have s5 := run_str ho5.isBytes 9 Try.underlying9
         clear k0 k1 k2 k3 k4 k5 hb5 ho5)
      | (refine load_row rfl 31 _ rfl W.heap.size _ (refL V S) _ rfl H5R.out Try.underlying31 rfl infoD ?_)
      | (refine store_row rfl 31 _ _ rfl w2.heap.size _ zeroD (refL V S) rfl rfl H5Z.out rfl infoD (refL_one _ _) ?_; intro w7 hr7 hg7 _; have HR7 := Lib.hid hr7; have G7 := Lib.hid hg7; clear hr7 hg7))
    refine bodyPost_ret (results_ref2 rfl _ _ w2.heap.size V S rfl HR7.out) rfl ⟨V, F, by rw [hY]; rfl, rfl, ?_⟩
    rw [hY]
    exact H5.out.done (.inr ⟨rfl, fun _ h => h⟩) (Below.refl _ _) (grown1 G7.out) HDU.out.made HDU.out.quota HDU.out.arm
  · rw [hq] at hY
    simp at hY
    obtain ⟨mx, hmx⟩ : ∃ mx : Int, mx = ((setArm S n).arm : Int) := ⟨_, rfl⟩
    have hmv : max n 0 = mx := by
      rw [hmx]
      show _ = ((n.toNat : Nat) : Int)
      omega
    have HMX := Lib.hid hmx
    clear hmx
    go_enter Try.func7, Try.ntmps7
    go_wp2_with (first
      | ((with_reducible show wpList _ _ _ (⟨some 4, _, _, _, _, _⟩ :: _) _ _); refine box_row rfl 31 (.tmp 1) (refL V S) rfl rfl ?_; intro w1 hr1 hb1 hs1; have HB1 := Lib.hid hb1; have HR1 := Lib.hid (show RBox w1 W.heap.size V S from hr1); have HS1 := Lib.hid hs1; clear hb1 hr1 hs1)
      | ((with_reducible show wpList _ _ _ (⟨some 5, _, _, _, _, _⟩ :: _) _ _); refine box_row rfl 37 (.tmp 2) [.int .i64 z, .string s, .string t, .slice a m c, .int .i64 n, .slice a5 m5 c5] rfl rfl ?_; intro w2 hr2 hb2 hs2; have HB2 := Lib.hid (HB1.out.trans (hb2.mono HB1.out.size)); have HR2 := Lib.hid (RBox.below HR1.out hb2); have HX := Lib.hid hr2; have HS2 := Lib.hid hs2; clear hb2 hr2 hs2)
      | ((with_reducible show wpList _ _ _ (⟨some 6, _, _, _, _, _⟩ :: _) _ _); refine alloc_row rfl 31 zeroD rfl zero_disk ?_; intro w3 hr3 hb3 hs3
         have HB3 := Lib.hid (HB2.out.trans (hb3.mono HB2.out.size))
         have HG := Lib.hid (show W.heap.size < w1.heap.size ∧ w1.heap.size < w2.heap.size ∧ w2.heap.size < w3.heap.size by have := HS1.out; have := HS2.out; omega)
         have H3 := Lib.hid (HDU.out.half HXL.out HB3.out (RBox.below HR2.out hb3) (RowAt.below HX.out hb3) hr3 (Nat.le_refl _) HG.out.1 HG.out.2.1)
         have RUN3 := Lib.hid H3.out.run.1
         obtain ⟨k0, k1, k2, k3, k4, k5⟩ := H3.out.seen
         dsimp only [List.getElem?_cons_zero, List.getElem?_cons_succ] at k0 k1 k2 k3 k4 k5
         clear hr3 hb3 hs3)
      | (go_at_call 25; (with_reducible refine (arm_any n HNI.out RUN3.out).mono ?_); rintro e4 w4 ⟨rfl, hst, hd4⟩
         have H4 := Lib.hid (H3.out.step hst hd4)
         have HMD := Lib.hid HDU.out.made
         obtain ⟨q0, q1, q2, q3, q4, q5, q6, q7, q8, q9⟩ := RBox.cells H4.out.r
         have f8 := H4.out.r.free 8
         rw [HMD.out] at q0
         have R8 := Lib.hid (show RBox (w4.setCell ⟨W.heap.size, 8, none⟩ (.int .i64 mx)) W.heap.size V (setArm S n) by have h := RowAt.set H4.out.r 8 (.int .i64 mx); rw [HMX.out] at h ⊢; exact h)
         have Z8 := Lib.hid (H4.out.z.other (a := ⟨W.heap.size, 8, none⟩) H4.out.rz.symm (.int .i64 mx))
         clear k0 k1 k2 k3 k4 k5 hst hd4
         obtain ⟨k0, k1, k2, k3, k4, k5⟩ := H4.out.seen
         dsimp only [List.getElem?_cons_zero, List.getElem?_cons_succ] at k0 k1 k2 k3 k4 k5)
      | (refine load_row rfl 31 _ rfl W.heap.size _ (refL V (setArm S n)) _ rfl R8.out Try.underlying31 rfl infoD ?_)
      | (refine store_row rfl 31 _ _ rfl w2.heap.size _ zeroD (refL V (setArm S n)) rfl rfl Z8.out rfl infoD (refL_one _ _) ?_; intro w7 hr7 hg7 _; have HR7 := Lib.hid hr7; have G7 := Lib.hid hg7; clear hr7 hg7))
    refine bodyPost_ret (results_ref2 rfl _ _ w2.heap.size V (setArm S n) rfl HR7.out) rfl ⟨V, F, by rw [hY]; rfl, rfl, ?_⟩
    rw [hY]
    exact H4.out.done (.inr ⟨rfl, fun _ h => ⟨h.files, h.synced, h.now, h.kept, h.acts⟩⟩) (Below.refl _ _) ((Chg.refl.setCell (.inl (.inl rfl)) _).grown G7.out (fun k hk => by cases hk; exact .inl (.inr rfl))) HDU.out.made HDU.out.quota (hY ▸ HYS.out.2)
  · rw [hq] at hY
    simp at hY
    go_enter Try.func7, Try.ntmps7
    go_wp2_with (first
      | ((with_reducible show wpList _ _ _ (⟨some 4, _, _, _, _, _⟩ :: _) _ _); refine box_row rfl 31 (.tmp 1) (refL V S) rfl rfl ?_; intro w1 hr1 hb1 hs1; have HB1 := Lib.hid hb1; have HR1 := Lib.hid (show RBox w1 W.heap.size V S from hr1); have HS1 := Lib.hid hs1; clear hb1 hr1 hs1)
      | ((with_reducible show wpList _ _ _ (⟨some 5, _, _, _, _, _⟩ :: _) _ _); refine box_row rfl 37 (.tmp 2) [.int .i64 z, .string s, .string t, .slice a m c, .int .i64 n, .slice a5 m5 c5] rfl rfl ?_; intro w2 hr2 hb2 hs2; have HB2 := Lib.hid (HB1.out.trans (hb2.mono HB1.out.size)); have HR2 := Lib.hid (RBox.below HR1.out hb2); have HX := Lib.hid hr2; have HS2 := Lib.hid hs2; clear hb2 hr2 hs2)
      | ((with_reducible show wpList _ _ _ (⟨some 6, _, _, _, _, _⟩ :: _) _ _); refine alloc_row rfl 31 zeroD rfl zero_disk ?_; intro w3 hr3 hb3 hs3
         have HB3 := Lib.hid (HB2.out.trans (hb3.mono HB2.out.size))
         have HG := Lib.hid (show W.heap.size < w1.heap.size ∧ w1.heap.size < w2.heap.size ∧ w2.heap.size < w3.heap.size by have := HS1.out; have := HS2.out; omega)
         have H3 := Lib.hid (HDU.out.half HXL.out HB3.out (RBox.below HR2.out hb3) (RowAt.below HX.out hb3) hr3 (Nat.le_refl _) HG.out.1 HG.out.2.1)
         have RUN3 := Lib.hid H3.out.run.1
         obtain ⟨k0, k1, k2, k3, k4, k5⟩ := H3.out.seen
         dsimp only [List.getElem?_cons_zero, List.getElem?_cons_succ] at k0 k1 k2 k3 k4 k5
         have HA := Lib.hid (H3.out.below ((Below.refl _ _).alloc (Nat.le_refl _) (.cells #[] 3)))
         obtain ⟨m0, m1, m2, m3, m4, m5'⟩ := HA.out.seen
         dsimp only [List.getElem?_cons_zero, List.getElem?_cons_succ] at m0 m1 m2 m3 m4 m5'
         have HLB := Lib.hid HDU.out.run.1.lt
         clear hr3 hb3 hs3)
      | ((with_reducible show wpList _ _ _ (⟨some 123, _, _, _, _, _⟩ :: _) _ _); (refine appG intK Try.underlying27 intInfo rfl rfl _ _ rfl w3.heap.size (.slice (some ⟨w3.heap.size, 0, none⟩) 0 0) [] rfl (OwnG.lit rfl _ rfl) a5 m5 c5 fs rfl (at_of_ints (HFT.out.below (H3.out.run.2.2.trans (((Below.refl _ _).alloc (Nat.le_refl _) _).mono H3.out.run.2.2.size)))) (by have := HM5.out; simp; omega) (by simp) m5 (by simp) ?_); intro aC cC wC hoC hgC
         have HBC := Lib.hid (show Below w3.heap.size w3 wC from ((Below.refl _ _).alloc (Nat.le_refl _) (.cells #[] 3)).grown hgC (by simp) (fun k hk => by cases hk; exact Nat.le_refl _))
         have HOC := Lib.hid (show OwnG intK 3 wC w3.heap.size (.slice aC m5 cC) fs from hoC)
         have HC := Lib.hid (H3.out.below HBC.out)
         have RUNC := Lib.hid HC.out.run.1
         have HLW := Lib.hid (show ∀ k, F k → k < w3.heap.size from fun k hk => Nat.lt_of_lt_of_le (HLB.out k hk) HB3.out.size)
         obtain ⟨j0, j1, j2, j3, j4, j5⟩ := HC.out.seen
         dsimp only [List.getElem?_cons_zero, List.getElem?_cons_succ] at j0 j1 j2 j3 j4 j5
         clear hoC hgC)
      | (go_at_call 26; (with_reducible refine (crash_any aC m5 cC fs RUNC.out HFD.out (ints_of_at HOC.out.atG) (own_free_of HOC.out HLW.out) HFI.out).mono ?_); rintro e4 w4 ⟨rfl, F2, hst, hd4⟩
         have H4 := Lib.hid (HC.out.step hst hd4)
         have HB4 := Lib.hid (HFT.out.below (H4.out.run.2.2))
         clear k0 k1 k2 k3 k4 k5 j0 j1 j2 j3 j4 j5 m0 m1 m2 m3 m4 m5' hst hd4
         obtain ⟨k0, k1, k2, k3, k4, k5⟩ := H4.out.seen
         dsimp only [List.getElem?_cons_zero, List.getElem?_cons_succ] at k0 k1 k2 k3 k4 k5)
      | (refine load_row rfl 31 _ rfl W.heap.size _ (refL V S) _ rfl H4.out.r Try.underlying31 rfl infoD ?_)
      | (go_at_call 27; (with_reducible refine (refCrash_any V S a5 m5 c5 fs _ H4.out.inn HB4.out HFI.out HDU.out.made HIV.out (HF.out.mono (by omega))).mono ?_); rintro e5 w5 ⟨V5, rfl, hm5, hq5, hn5, hb5⟩
         have M5 := Lib.hid hm5
         have Q5 := Lib.hid hq5
         have N5 := Lib.hid (show RefNew w4 w5 V V5 S (crashS S fs) from .inl hn5)
         have B5 := Lib.hid hb5
         have H5 := Lib.hid (H4.out.below hb5)
         clear k0 k1 k2 k3 k4 k5 hm5 hq5 hn5 hb5)
      | ((with_reducible show wpList _ _ _ (⟨none, .store _ (.tmp 4) _, _, _, _, _⟩ :: _) _ _); refine store_row rfl 31 _ _ rfl W.heap.size _ (refL V S) (refL V5 (crashS S fs)) rfl rfl H5.out.r rfl infoD (refL_one _ _) ?_; intro w6 hr6 hg6 hs6
         have R6 := Lib.hid (show RBox w6 W.heap.size V5 (crashS S fs) from hr6)
         have Z6 := Lib.hid (H5.out.z.grown hg6 (fun e => H5.out.rz (Option.some.inj e).symm))
         have G6 := Lib.hid hg6
         clear hr6 hg6 hs6)
      | (refine load_row rfl 31 _ rfl W.heap.size _ (refL V5 (crashS S fs)) _ rfl R6.out Try.underlying31 rfl infoD ?_)
      | (refine store_row rfl 31 _ _ rfl w2.heap.size _ zeroD (refL V5 (crashS S fs)) rfl rfl Z6.out rfl infoD (refL_one _ _) ?_; intro w7 hr7 hg7 _; have HR7 := Lib.hid hr7; have G7 := Lib.hid hg7; clear hr7 hg7))
    refine bodyPost_ret (results_ref2 rfl _ _ w2.heap.size V5 (crashS S fs) rfl HR7.out) rfl ⟨V5, F2, by rw [hY]; rfl, Q5.out, ?_⟩
    rw [hY]
    exact H4.out.done N5.out B5.out (grown2 G6.out G7.out) M5.out (by rw [Q5.out, HDU.out.quota, ← hY, HYS.out.1]) (hY ▸ HYS.out.2)
#print axioms played_yes
end Go.Proofs.Ytemphljkfpkgmaa
