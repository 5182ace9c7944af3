/-
  The reference's Sync walked.
-/
import Derived.Test.YtemphljkfpkgmaaRefEnd
namespace Go.Proofs.Ytemphljkfpkgmaa
open Go.RowKit

set_option maxRecDepth 100000 in
set_option maxHeartbeats 2000000 in
theorem refSync_any (V : RVal) (S : DS) (s : Nm) (w : World) (h : RefIn w V S) (hm : V.made = true) (hok : Inv S) (hfew : Few S 10000) (har : S.arm ≤ 9223372036854775807) :
    Calls Try.prog 19 #[.agg (refC V S), .string (strB s)] w (RefEnd w V S (syncS S s)) := by
  obtain ⟨z, hz⟩ : ∃ z, readyS S s s = z := ⟨_, rfl⟩
  have HI := Lib.hid h
  have HIV := Lib.hid hok
  have HFW := Lib.hid (hfew.mono (show 10000 ≤ 100000 by omega))
  have HFW2 := Lib.hid hfew
  have P1 := Lib.hid (fun W => refReady_any V S s s W hm hz)
  have P2 := Lib.hid (fun W (hb : Below w.heap.size w W) => refLook_any V.an V.nn V.cn S.now s W (h.now.below hb))
  have HZI := Lib.hid (show (0 : Int) ≤ (z : Int) by omega)
  have HAR := Lib.hid har
  by_cases h0 : z = 0
  · subst h0
    have HDN := Lib.hid (ready_may hz).1
    cases hk : look S.now s with
    | none =>
      have HE := Lib.hid (syncS_none hz hk)
      have e9 : lookZ S.now s = -1 := by unfold lookZ; rw [hk]
      rw [e9] at P2
      clear h hm hok hfew hz e9 hk har
      go_enter Try.func19, Try.ntmps19
      go_wp2_with (first
        | (refine box_row rfl 31 (.tmp 0) (refL V S) rfl rfl ?_; intro w1 hr1 hb1 hs1; have HB1 := Lib.hid hb1; have HR1 := Lib.hid hr1; have HS1 := Lib.hid hs1; clear hb1 hr1 hs1)
        | (refine alloc_row rfl 31 zeroD rfl zero_disk ?_; intro w2 hr2 hb2 hs2; have HB2 := Lib.hid (HB1.out.trans (hb2.mono HB1.out.size)); have HR2 := Lib.hid (RBox.below HR1.out hb2); have HZ2 := Lib.hid hr2; have HNE := Lib.hid (show w1.heap.size ≠ w.heap.size by have := HS1.out; omega); have HW1 := Lib.hid HB1.out.size; clear hr2 hb2 hs2)
        | (refine load_row rfl 31 _ rfl w.heap.size _ (refL V S) _ rfl HR4.out Try.underlying31 rfl infoD ?_)
        | (refine load_row rfl 31 _ rfl w.heap.size _ (refL V S) _ rfl HR2.out Try.underlying31 rfl infoD ?_)
        | (go_at_call 34; (with_reducible refine (P1.out _).mono ?_); rintro e w3 ⟨rfl, hb3⟩; have HB3 := Lib.hid (HB2.out.trans (hb3.mono HB2.out.size)); have HR3 := Lib.hid (RBox.below HR2.out hb3); have HZ3 := Lib.hid (RowAt.below HZ2.out hb3); have k4 := (RBox.cells HR3.out).2.2.2.2.1; clear hb3)
        | (go_at_call 37; (with_reducible refine (P2.out _ HB3.out).mono ?_); rintro e w4 ⟨rfl, hb4⟩; have HB4 := Lib.hid (HB3.out.trans (hb4.mono HB3.out.size)); have HR4 := Lib.hid (RBox.below HR3.out hb4); have HZ4 := Lib.hid (RowAt.below HZ3.out hb4); have HI4 := Lib.hid (HI.out.below HB4.out); clear hb4 k4)
        | (refine store_row rfl 31 _ _ rfl w1.heap.size _ zeroD (refL V S) rfl rfl HZ4.out rfl infoD (refL_one _ _) ?_; intro w9 hr9 hg9 _; have HB9 := Lib.hid (HB4.out.grown hg9 HB4.out.size (fun k hk => by cases hk; exact HW1.out))))
      exact bodyPost_ret (results_ref2 rfl _ _ w1.heap.size V S rfl hr9) rfl ⟨V, by rw [HE.out]; rfl, rfl, rfl, by rw [HE.out]; exact .inr ⟨rfl, fun _ h => h⟩, HB9.out⟩
    | some k =>
      have e9 : lookZ S.now s = (k : Int) := by unfold lookZ; rw [hk]
      rw [e9] at P2
      have HKL := Lib.hid (hok.nids _ (look_mem hk))
      have hk0 : (0 : Int) ≤ (k : Int) := by omega
      cases ha : armF S with
      | true =>
        have HE := Lib.hid (syncS_arm hz hk ha)
        have hA2 := ha
        clear h hm hok hfew hz e9 hk har ha
        go_enter Try.func19, Try.ntmps19
        go_wp2_with (first
          | (refine box_row rfl 31 (.tmp 0) (refL V S) rfl rfl ?_; intro w1 hr1 hb1 hs1; have HB1 := Lib.hid hb1; have HR1 := Lib.hid hr1; have HS1 := Lib.hid hs1; clear hb1 hr1 hs1)
          | (refine alloc_row rfl 31 zeroD rfl zero_disk ?_; intro w2 hr2 hb2 hs2; have HB2 := Lib.hid (HB1.out.trans (hb2.mono HB1.out.size)); have HR2 := Lib.hid (RBox.below HR1.out hb2); have HZ2 := Lib.hid hr2; have HNE := Lib.hid (show w1.heap.size ≠ w.heap.size by have := HS1.out; omega); have HW1 := Lib.hid HB1.out.size; clear hr2 hb2 hs2)
          | (refine load_row rfl 31 _ rfl w.heap.size _ (refL V5 (armS S)) _ rfl HR7.out Try.underlying31 rfl infoD ?_)
          | (refine load_row rfl 31 _ rfl w.heap.size _ (refL V S) _ rfl HR4.out Try.underlying31 rfl infoD ?_)
          | (refine load_row rfl 31 _ rfl w.heap.size _ (refL V S) _ rfl HR2.out Try.underlying31 rfl infoD ?_)
          | (go_at_call 34; (with_reducible refine (P1.out _).mono ?_); rintro e w3 ⟨rfl, hb3⟩; have HB3 := Lib.hid (HB2.out.trans (hb3.mono HB2.out.size)); have HR3 := Lib.hid (RBox.below HR2.out hb3); have HZ3 := Lib.hid (RowAt.below HZ2.out hb3); have k4 := (RBox.cells HR3.out).2.2.2.2.1; clear hb3)
          | (go_at_call 37; (with_reducible refine (P2.out _ HB3.out).mono ?_); rintro e w4 ⟨rfl, hb4⟩; have HB4 := Lib.hid (HB3.out.trans (hb4.mono HB3.out.size)); have HR4 := Lib.hid (RBox.below HR3.out hb4); have HZ4 := Lib.hid (RowAt.below HZ3.out hb4); have HI4 := Lib.hid (HI.out.below HB4.out); clear hb4 k4)
          | (go_at_call 35; (with_reducible refine (refCopy_any V S _ HI4.out HIV.out HFW.out).mono ?_); rintro e w5 ⟨V5, rfl, hm5, hq5, ho5, hb5⟩; have HB5 := Lib.hid (HB4.out.trans (hb5.mono HB4.out.size)); have HR5 := Lib.hid (RBox.below HR4.out hb5); have HZ5 := Lib.hid (RowAt.below HZ4.out hb5); have HO5 := Lib.hid ho5; have HM5 := Lib.hid hm5; have HQ5 := Lib.hid hq5; have HS5 := Lib.hid hb5.size; have HL4 := Lib.hid (show w.heap.size < w4.heap.size ∧ w1.heap.size < w4.heap.size from ⟨HR4.out.lt, HZ4.out.lt⟩); clear ho5 hb5 hm5 hq5)
          | (go_at_call 36; (with_reducible refine (refArmed_any V5 S _ HDN.out HAR.out).mono ?_); rintro e w6 ⟨rfl, hb6⟩; rw [hA2]; have HB6 := Lib.hid (HB5.out.trans (hb6.mono HB5.out.size)); have HR6 := Lib.hid (RBox.below HR5.out hb6); have HZ6 := Lib.hid (RowAt.below HZ5.out hb6); have HO6 := Lib.hid (show RefOwn w6 w4.heap.size V5 (armS S) from (by obtain ⟨R, h1, h2⟩ := HO5.out; exact ⟨R, h1.below hb6, h2⟩)); have HS6 := Lib.hid (Nat.le_trans HS5.out hb6.size); clear hb6)
          | (refine store_row rfl 31 _ _ rfl w.heap.size _ (refL V S) (refL V5 (armS S)) rfl rfl HR6.out rfl infoD (refL_one _ _) ?_; intro w7 hr7 hg7 hs7; have HB7 := Lib.hid (HB6.out.grown hg7 HB6.out.size (fun k hk => by cases hk; exact Nat.le_refl _)); have HR7 := Lib.hid (show RBox w7 w.heap.size V5 (armS S) from hr7); have HZ7 := Lib.hid (RowAt.grown HZ6.out hg7 (fun e => HNE.out (Option.some.inj e))); have HO7 := Lib.hid (show RefOwn w7 w4.heap.size V5 (armS S) from (by obtain ⟨R, h1, h2⟩ := HO6.out; exact ⟨R, h1.grownLow HL4.out.1 hg7, h2⟩)); have HS7 := Lib.hid (show w4.heap.size ≤ w7.heap.size by rw [hs7]; exact HS6.out); clear hr7 hg7 hs7)
          | (refine store_row rfl 31 _ _ rfl w1.heap.size _ zeroD (refL V5 (armS S)) rfl rfl HZ7.out rfl infoD (refL_one _ _) ?_; intro w9 hr9 hg9 _; have HB9 := Lib.hid (HB7.out.grown hg9 HB7.out.size (fun k hk => by cases hk; exact HW1.out))))
        exact bodyPost_ret (results_ref2 rfl _ _ w1.heap.size V5 (armS S) rfl hr9) rfl ⟨V5, by rw [HE.out]; rfl, HM5.out, HQ5.out, by rw [HE.out]; exact .inl (own_far (base := w4.heap.size) (by obtain ⟨R, h1, h2⟩ := HO7.out; exact ⟨R, h1.grownLow HL4.out.2 hg9, h2⟩) (Nat.le_of_lt HL4.out.1)), HB9.out⟩
      | false =>
        have HE := Lib.hid (syncS_ok hz hk ha)
        have hA2 := ha
        clear h hm hok hfew hz e9 hk har ha
        go_enter Try.func19, Try.ntmps19
        go_wp2_with (first
          | (refine box_row rfl 31 (.tmp 0) (refL V S) rfl rfl ?_; intro w1 hr1 hb1 hs1; have HB1 := Lib.hid hb1; have HR1 := Lib.hid hr1; have HS1 := Lib.hid hs1; clear hb1 hr1 hs1)
          | (refine alloc_row rfl 31 zeroD rfl zero_disk ?_; intro w2 hr2 hb2 hs2; have HB2 := Lib.hid (HB1.out.trans (hb2.mono HB1.out.size)); have HR2 := Lib.hid (RBox.below HR1.out hb2); have HZ2 := Lib.hid hr2; have HNE := Lib.hid (show w1.heap.size ≠ w.heap.size by have := HS1.out; omega); have HW1 := Lib.hid HB1.out.size; clear hr2 hb2 hs2)
          | (refine load_row rfl 31 _ rfl w.heap.size _ (refL V S) _ rfl HR4.out Try.underlying31 rfl infoD ?_)
          | (refine load_row rfl 31 _ rfl w.heap.size _ (refL V S) _ rfl HR2.out Try.underlying31 rfl infoD ?_)
          | (go_at_call 34; (with_reducible refine (P1.out _).mono ?_); rintro e w3 ⟨rfl, hb3⟩; have HB3 := Lib.hid (HB2.out.trans (hb3.mono HB2.out.size)); have HR3 := Lib.hid (RBox.below HR2.out hb3); have HZ3 := Lib.hid (RowAt.below HZ2.out hb3); have k4 := (RBox.cells HR3.out).2.2.2.2.1; clear hb3)
          | (go_at_call 37; (with_reducible refine (P2.out _ HB3.out).mono ?_); rintro e w4 ⟨rfl, hb4⟩; have HB4 := Lib.hid (HB3.out.trans (hb4.mono HB3.out.size)); have HR4 := Lib.hid (RBox.below HR3.out hb4); have HZ4 := Lib.hid (RowAt.below HZ3.out hb4); have HI4 := Lib.hid (HI.out.below HB4.out); clear hb4 k4)
          | (go_at_call 35; (with_reducible refine (refCopy_any V S _ HI4.out HIV.out HFW.out).mono ?_); rintro e w5 ⟨V5, rfl, hm5, hq5, ho5, hb5⟩; have HB5 := Lib.hid (HB4.out.trans (hb5.mono HB4.out.size)); have HR5 := Lib.hid (RBox.below HR4.out hb5); have HZ5 := Lib.hid (RowAt.below HZ4.out hb5); have HO5 := Lib.hid ho5; have HM5 := Lib.hid hm5; have HQ5 := Lib.hid hq5; have HS5 := Lib.hid hb5.size; have HL4 := Lib.hid (show w.heap.size < w4.heap.size ∧ w1.heap.size < w4.heap.size from ⟨HR4.out.lt, HZ4.out.lt⟩); clear ho5 hb5 hm5 hq5)
          | (go_at_call 36; (with_reducible refine (refArmed_any V5 S _ HDN.out HAR.out).mono ?_); rintro e w6 ⟨rfl, hb6⟩; rw [hA2]; have HB6 := Lib.hid (HB5.out.trans (hb6.mono HB5.out.size)); have HR6 := Lib.hid (RBox.below HR5.out hb6); have HZ6 := Lib.hid (RowAt.below HZ5.out hb6); have HO6 := Lib.hid (show RefOwn w6 w4.heap.size V5 (armS S) from (by obtain ⟨R, h1, h2⟩ := HO5.out; exact ⟨R, h1.below hb6, h2⟩)); have HS6 := Lib.hid (Nat.le_trans HS5.out hb6.size); clear hb6)
          | (refine store_row rfl 31 _ _ rfl w.heap.size _ (refL V S) (refL V5 (armS S)) rfl rfl HR6.out rfl infoD (refL_one _ _) ?_; intro w7 hr7 hg7 hs7; have HB7 := Lib.hid (HB6.out.grown hg7 HB6.out.size (fun k hk => by cases hk; exact Nat.le_refl _)); have HR7 := Lib.hid (show RBox w7 w.heap.size V5 (armS S) from hr7); have HZ7 := Lib.hid (RowAt.grown HZ6.out hg7 (fun e => HNE.out (Option.some.inj e))); have HO7 := Lib.hid (show RefOwn w7 w4.heap.size V5 (armS S) from (by obtain ⟨R, h1, h2⟩ := HO6.out; exact ⟨R, h1.grownLow HL4.out.1 hg7, h2⟩)); have HS7 := Lib.hid (show w4.heap.size ≤ w7.heap.size by rw [hs7]; exact HS6.out); clear hr7 hg7 hs7))
        obtain ⟨R, HH, HRE⟩ := HO7.out
        replace HH : Holds w7 w4.heap.size (partsH V5 S R) := HH
        replace HRE : R.map (·.l) = S.files.map (·.1) := HRE
        have hsy := HH.gG (E := 3) (K := numK) (v := .slice V5.ay V5.ny V5.cy) (M := S.files.map (·.2)) (fun _ => trivial) (by simp)
        have hny := hsy.len
        rw [List.length_map] at hny
        have hkl := HKL.out
        obtain ⟨gY, hgY, hbY, hlY, hfY⟩ := hsy.row (by omega)
        have hin := RefOwn.inn (V := V5) (S := armS S) ⟨R, HH, HRE⟩
        have hnf := hin.files.len
        rw [List.length_map] at hnf
        obtain ⟨bf, of_, a1, n1, c1, hfo, cf, hby⟩ := hin.files.at_ (show k < V5.nf by have : (armS S).files.length = S.files.length := rfl; omega)
        obtain ⟨k0, k1, k2, k3, k4, k5, k6, k7, k8, k9⟩ := RBox.cells HR7.out
        rw [hgY] at hsy k3
        rw [hfo] at k2
        have cy := hsy.atG.cell k (by omega) 0 _ rfl
        have hk1 : numK.k = 1 := rfl
        rw [hk1, Nat.mul_one, Nat.add_zero, Nat.zero_add] at cy
        have fy := hfY k
        have hkn : (k : Int) < (V5.ny : Int) := by omega
        have hkf : (k : Int) < (V5.nf : Int) := by have : (armS S).files.length = S.files.length := rfl; omega
        have HRR := Lib.hid HRE
        have HKY := Lib.hid (show k < V5.ny by omega)
        have HSY := Lib.hid hsy
        have HBY := Lib.hid hby
        have HHH := Lib.hid HH
        have HIN := Lib.hid hin
        clear hsy hin hby hfo hnf hny hkl HH
        go_wp2
        go_region
        have HX := Lib.hid (show Holds (w7.setCell ⟨gY, k, none⟩ (.int .i64 (n1 : Int))).drew w4.heap.size (hG numK 3 (.slice (some ⟨gY, 0, none⟩) V5.ny V5.cy) ((keepS (armS S) k).files.map (·.2)) :: hG entK 67 (.slice V5.an V5.nn V5.cn) S.now :: hG rowK 35 (.slice V5.af V5.nf V5.cf) R :: R.map hB) by
          have h1 := HHH.out.sub (L1 := hG entK 67 (.slice V5.an V5.nn V5.cn) S.now :: hG numK 3 (.slice V5.ay V5.ny V5.cy) (S.files.map (·.2)) :: hG rowK 35 (.slice V5.af V5.nf V5.cf) R :: R.map hB) (.cons _ (.cons _ (List.Sublist.refl _)))
          have h2 := h1.perm (List.Perm.swap _ _ _)
          rw [hgY] at h2
          have h3 := OwnG.store HSY.out (j := k) (i := 0) (by have := HKY.out; omega) (by decide) (.int .i64 (n1 : Int)) n1 rfl trivial
          rw [hk1, Nat.mul_one, Nat.add_zero] at h3
          have h4 : (S.files.map (·.2)).set k n1 = (keepS (armS S) k).files.map (·.2) := by
            have h5 : ((S.files.map (·.1)).getD k []).length = n1 := HBY.out.1
            rw [files_get _ _ HKL.out] at h5
            show _ = (S.files.modify k _).map _
            rw [keep_snd _ _ HKL.out, ← h5]
          rw [h4] at h3
          exact Holds.below (h2.setOwn (h' := hG numK 3 (.slice (some ⟨gY, 0, none⟩) V5.ny V5.cy) ((keepS (armS S) k).files.map (fun x : FileD => x.2))) (g := gY) rfl k (.int .i64 (n1 : Int)) rfl h3.1) (Below.refl _ _).drew)
        have HNG := Lib.hid (show w.heap.size ≠ gY ∧ w1.heap.size ≠ gY ∧ w.heap.size ≤ gY by have := HL4.out; have := hbY; exact ⟨by omega, by omega, by omega⟩)
        have HR8 := Lib.hid (show RBox (w7.setCell ⟨gY, k, none⟩ (.int .i64 (n1 : Int))).drew w.heap.size V5 (armS S) from RowAt.other HR7.out (show w.heap.size ≠ gY from HNG.out.1) _)
        have HZ8 := Lib.hid (show RowAt (w7.setCell ⟨gY, k, none⟩ (.int .i64 (n1 : Int))).drew w1.heap.size 31 zeroD from RowAt.other HZ7.out (show w1.heap.size ≠ gY from HNG.out.2.1) _)
        have HB8 := Lib.hid (show Below w.heap.size w (w7.setCell ⟨gY, k, none⟩ (.int .i64 (n1 : Int))).drew from (HB7.out.setCell (show w.heap.size ≤ (⟨gY, k, none⟩ : Addr).block from HNG.out.2.2) _).drew)
        have HS8 := Lib.hid (show w4.heap.size ≤ (w7.setCell ⟨gY, k, none⟩ (.int .i64 (n1 : Int))).drew.heap.size by have : (w7.setCell ⟨gY, k, none⟩ (.int .i64 (n1 : Int))).drew.heap.size = w7.heap.size := by simp [World.setCell, World.drew]
                                                                                                                     rw [this]; exact HS7.out)
        clear k0 k1 k2 k3 k4 k5 k6 k7 k8 k9 cy fy cf hkn hkf
        generalize (w7.setCell ⟨gY, k, none⟩ (.int .i64 (n1 : Int))).drew = w8 at HX HR8 HZ8 HB8 HS8 ⊢
        have HNW := Lib.hid (show AtG entK w8 V5.an V5.nn V5.cn S.now from (HX.out.gG (E := 67) (fun _ => trivial) (by simp)).atG)
        have HX2 := Lib.hid (HNW.out.below ((Below.refl w8.heap.size w8).alloc (Nat.le_refl _) (.cells #[] 67)))
        have r4 := (RBox.cells (RBox.below HR8.out ((Below.refl _ w8).alloc (Nat.le_refl _) (.cells #[] 67)))).2.2.2.2.1
        have H48 := Lib.hid (show (([] : Dir).length + V5.nn) * (24 + 1) ≤ 140737488355328 by have := HNW.out.1; have := HIV.out.nowLen HFW.out; simp; omega)

        go_wp2_with (first
          | ((with_reducible show wpList _ _ _ (⟨some 45, _, _, _, _, _⟩ :: _) _ _); go_must (refine appG entK Try.underlying28 entInfo rfl rfl _ _ rfl w8.heap.size (.slice (some ⟨w8.heap.size, 0, none⟩) 0 0) [] rfl (OwnG.lit rfl _ rfl) V5.an V5.nn V5.cn S.now rfl HX2.out H48.out (by simp) V5.nn (by simp) ?_); intro a9 c9 w9 ho9 hg9
             have hb9 : Below w8.heap.size w8 w9 := ((Below.refl w8.heap.size w8).alloc (Nat.le_refl _) (.cells #[] 67)).grown hg9 (by simp) (fun k hk => by cases hk; exact Nat.le_refl _)
             obtain ⟨wE, hwE⟩ : ∃ wE, (w9.setCell ⟨w.heap.size, 5, none⟩ (.slice a9 V5.nn c9)).setCell ⟨w.heap.size, 6, none⟩ (.slice none 0 0) = wE := ⟨_, rfl⟩
             have HRA := Lib.hid (RBox.below HR8.out hb9)
             have HZE := Lib.hid (show RowAt wE w1.heap.size 31 zeroD by rw [← hwE]; exact ((HZ8.out.below hb9).other (show w1.heap.size ≠ w.heap.size from HNE.out) _).other (show w1.heap.size ≠ w.heap.size from HNE.out) _)
             have HRE2 := Lib.hid (show RBox wE w.heap.size { V5 with ak := a9, nk := V5.nn, ck := c9, aa := none, na := 0, ca := 0 } (keepS (armS S) k) by rw [← hwE]; exact (HRA.out.set 5 _).set 6 _)
             have HBE := Lib.hid (show Below w.heap.size w wE by rw [← hwE]; exact ((HB8.out.trans (hb9.mono HB8.out.size)).setCell (Nat.le_refl _) _).setCell (Nat.le_refl _) _)
             have HXE := Lib.hid (show Holds wE w4.heap.size _ by rw [← hwE]; exact (((HX.out.add (h := hG entK 67 (.slice a9 V5.nn c9) S.now) ho9.1 hb9 HS8.out).setLow HL4.out.1 5 _).setLow HL4.out.1 6 _))
             have q5 := (RBox.cells HRA.out).2.2.2.2.2.1
             have q6 := (RBox.cells HRA.out).2.2.2.2.2.2.1
             have f5 := HRA.out.free 5
             have f6 := (HRA.out.set 5 (.slice a9 V5.nn c9)).free 6
             clear ho9 hg9 hb9)
          | (refine load_row rfl 31 _ rfl w.heap.size _ (refL { V5 with ak := a9, nk := V5.nn, ck := c9, aa := none, na := 0, ca := 0 } (keepS (armS S) k)) _ rfl HRE2.out Try.underlying31 rfl infoD ?_)
          | (refine store_row rfl 31 _ _ rfl w1.heap.size _ zeroD (refL { V5 with ak := a9, nk := V5.nn, ck := c9, aa := none, na := 0, ca := 0 } (keepS (armS S) k)) rfl rfl HZE.out rfl infoD (refL_one _ _) ?_; intro w10 hr10 hg10 _))
        have HFI := Lib.hid (HXE.out.grownLow HL4.out.2 hg10)
        have hfst : R.map (·.l) = (keepS (armS S) k).files.map (·.1) := by
          rw [HRR.out]
          exact (keep_fst S.files k).symm
        have hyy : AtG numK w10 V5.ay V5.ny V5.cy ((keepS (armS S) k).files.map (fun x : FileD => x.2)) := by
          rw [hgY]
          exact (HFI.out.gG (E := 3) (K := numK) (v := .slice (some ⟨gY, 0, none⟩) V5.ny V5.cy) (M := (keepS (armS S) k).files.map (fun x : FileD => x.2)) (fun _ => trivial) (by simp)).atG
        exact bodyPost_ret (results_ref2 rfl _ _ w1.heap.size ({ V5 with ak := a9, nk := V5.nn, ck := c9, aa := none, na := 0, ca := 0 } : RVal) (keepS (armS S) k) rfl hr10) rfl ⟨({ V5 with ak := a9, nk := V5.nn, ck := c9, aa := none, na := 0, ca := 0 } : RVal), by rw [HE.out]; rfl, HM5.out, HQ5.out, by rw [HE.out]; exact .inl (holds_far HFI.out (Nat.le_of_lt HL4.out.1) (fun W'' HFJ => ⟨rows_in HFJ (by simp) (fun x hx => by simp only [List.mem_cons, List.mem_map]; exact .inr (.inr (.inr (.inr ⟨x, hx, rfl⟩)))) hfst, (by rw [hgY]; exact (HFJ.gG (E := 3) (K := numK) (v := .slice (some ⟨gY, 0, none⟩) V5.ny V5.cy) (M := (keepS (armS S) k).files.map (fun x : FileD => x.2)) (fun _ => trivial) (by simp)).atG), (HFJ.gG (E := 67) (K := entK) (v := .slice V5.an V5.nn V5.cn) (M := S.now) (fun _ => trivial) (by simp)).atG, (HFJ.gG (E := 67) (K := entK) (v := .slice a9 V5.nn c9) (M := S.now) (fun _ => trivial) (by simp)).atG, AtG.nil⟩)), HBE.out.grown hg10 HBE.out.size (fun k hk => by cases hk; exact HW1.out)⟩
  · have HE := Lib.hid (syncS_bad hz h0)
    have hz0 : ((z : Int) == 0) = false := by simp; omega
    have hz1 : ((z : Int) != 0) = true := by simp; omega
    clear h hm hok hfew hz h0 har
    go_enter Try.func19, Try.ntmps19
    go_wp2_with (first
      | (refine box_row rfl 31 (.tmp 0) (refL V S) rfl rfl ?_; intro w1 hr1 hb1 hs1; have HB1 := Lib.hid hb1; have HR1 := Lib.hid hr1; have HS1 := Lib.hid hs1; clear hb1 hr1 hs1)
      | (refine alloc_row rfl 31 zeroD rfl zero_disk ?_; intro w2 hr2 hb2 hs2; have HB2 := Lib.hid (HB1.out.trans (hb2.mono HB1.out.size)); have HR2 := Lib.hid (RBox.below HR1.out hb2); have HZ2 := Lib.hid hr2; have HNE := Lib.hid (show w1.heap.size ≠ w.heap.size by have := HS1.out; omega); have HW1 := Lib.hid HB1.out.size; clear hr2 hb2 hs2)
      | (refine load_row rfl 31 _ rfl w.heap.size _ (refL V S) _ rfl HR3.out Try.underlying31 rfl infoD ?_)
      | (refine load_row rfl 31 _ rfl w.heap.size _ (refL V S) _ rfl HR2.out Try.underlying31 rfl infoD ?_)
      | (go_at_call 34; (with_reducible refine (P1.out _).mono ?_); rintro e w3 ⟨rfl, hb3⟩; have HB3 := Lib.hid (HB2.out.trans (hb3.mono HB2.out.size)); have HR3 := Lib.hid (RBox.below HR2.out hb3); have HZ3 := Lib.hid (RowAt.below HZ2.out hb3); have k4 := (RBox.cells HR3.out).2.2.2.2.1; clear hb3)
      | (refine store_row rfl 31 _ _ rfl w1.heap.size _ zeroD (refL V S) rfl rfl HZ3.out rfl infoD (refL_one _ _) ?_; intro w9 hr9 hg9 _; have HB9 := Lib.hid (HB3.out.grown hg9 HB3.out.size (fun k hk => by cases hk; exact HW1.out))))
    exact bodyPost_ret (results_ref2 rfl _ _ w1.heap.size V S rfl hr9) rfl ⟨V, by rw [HE.out]; rfl, rfl, rfl, by rw [HE.out]; exact .inr ⟨rfl, fun _ h => h⟩, HB9.out⟩
#print axioms refSync_any
end Go.Proofs.Ytemphljkfpkgmaa
