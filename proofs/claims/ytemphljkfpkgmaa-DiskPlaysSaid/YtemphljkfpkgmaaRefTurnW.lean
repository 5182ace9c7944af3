/-
  The reference's Turn walked.
-/
import Derived.Test.YtemphljkfpkgmaaRefEnd
namespace Go.Proofs.Ytemphljkfpkgmaa
open Go.RowKit

def zeroA : List Value := [.string ByteArray.empty, .string ByteArray.empty, .int .i64 0]
theorem zero_act (w : World) : (zeroValue 81).run Try.prog w = .ok (.agg zeroA.toArray) w := by kernel_rfl
theorem infoA : (Try.prog.info? 81).map (·.size) = some 3 := by kernel_rfl
theorem ract_one (x : DAct) : ∀ v ∈ (ractC x).toList, v.oneCell' = true := fun v hv => by
  simp only [List.mem_cons, List.not_mem_nil, or_false] at hv
  rcases hv with rfl | rfl | rfl <;> rfl
theorem fill_act (x : DAct) (z : Value) (hz : z = .agg #[.string ByteArray.empty, .string ByteArray.empty, .int .i64 0]) : Instr.fill (fun i => some (i * 3, 3)) ((Array.range (1 * 3)).map (z.cells[· % z.cells.size]!)) [(0, .agg (ractC x))] = some (actK.cells x).toArray := by
  subst hz
  kernel_rfl
/-- A slice literal of one act. -/
theorem wp_sl_act {o : Oper} {a : Act} {w : World} {K : Act → World → Prop} {Q : Exit → Act → World → Prop} (x : Operand) (ho : o.op = .buildSlice 29 1 #[(0, x)]) (X : DAct) (hx : a.eval x = .agg (ractC X))
    (h : K (a.put o.dst (.slice (some ⟨w.heap.size, 0, none⟩) 1 1)) (w.alloc (.cells (actK.cells X).toArray 81))) : o.wp Try.prog a w K Q := by
  obtain ⟨i0, hi, hz0, hz1, hz2⟩ := info_parts actInfo
  refine wp_buildSlice 29 81 1 #[(0, x)] ho (actK.cells X).toArray i0 _ Try.underlying29 hi hz0 (by rw [hz1]; decide) (by rw [hz1]; decide) ?_ h
  rw [hz1]
  have e : (#[(0, x)].map fun (p : Nat × Operand) => (p.1, a.eval p.2)).toList = [(0, .agg (ractC X))] := by simp [hx]
  exact (congrArg (Instr.fill (fun i => some (i * 3, 3)) _) e).trans (fill_act X _ rfl)

set_option maxRecDepth 100000 in
set_option maxHeartbeats 4000000 in
theorem refTurn_any (V : RVal) (S : DS) (s t : Nm) (w : World) (h : RefIn w V S) (hm : V.made = true) (hok : Inv S) (hfew : Few S 10000) (har : S.arm ≤ 9223372036854775807) :
    Calls Try.prog 21 #[.agg (refC V S), .string (strB s), .string (strB t), .bool false] w (RefEnd w V S (turnS S s t t)) := by
  obtain ⟨z, hz⟩ : ∃ z, readyS S s t = z := ⟨_, rfl⟩
  have HI := Lib.hid h
  have HIV := Lib.hid hok
  have HFW := Lib.hid (hfew.mono (show 10000 ≤ 100000 by omega))
  have P1 := Lib.hid (fun W => refReady_any V S s t W hm hz)
  have P2 := Lib.hid (fun W (hb : Below w.heap.size w W) => refLook_any V.an V.nn V.cn S.now s W (h.now.below hb))
  have HZI := Lib.hid (show (0 : Int) ≤ (z : Int) by omega)
  have HAR := Lib.hid har
  by_cases h0 : z = 0
  · subst h0
    have HDN := Lib.hid (ready_may hz).1
    cases hk : look S.now s with
    | none =>
      have HE := Lib.hid (turnS_none (t := t) hz hk)
      have e9 : lookZ S.now s = -1 := by unfold lookZ; rw [hk]
      rw [e9] at P2
      clear h hm hok hfew hz e9 hk har
      go_enter Try.func21, Try.ntmps21
      go_wp2_with (first
        | (refine box_row rfl 31 (.tmp 0) (refL V S) rfl rfl ?_; intro w1 hr1 hb1 hs1; have HB1 := Lib.hid hb1; have HR1 := Lib.hid hr1; have HS1 := Lib.hid hs1; clear hb1 hr1 hs1)
        | (refine alloc_row rfl 31 zeroD rfl zero_disk ?_; intro w2 hr2 hb2 hs2; have HB2 := Lib.hid (HB1.out.trans (hb2.mono HB1.out.size)); have HR2 := Lib.hid (RBox.below HR1.out hb2); have HZ2 := Lib.hid hr2; have HNE := Lib.hid (show w1.heap.size ≠ w.heap.size by have := HS1.out; omega); have HW1 := Lib.hid HB1.out.size; clear hr2 hb2 hs2)
        | (refine load_row rfl 31 _ rfl w.heap.size _ (refL V S) _ rfl HR4.out Try.underlying31 rfl infoD ?_)
        | (refine load_row rfl 31 _ rfl w.heap.size _ (refL V S) _ rfl HR2.out Try.underlying31 rfl infoD ?_)
        | (go_at_call 34; (with_reducible refine (P1.out _).mono ?_); rintro e w3 ⟨rfl, hb3⟩; have HB3 := Lib.hid (HB2.out.trans (hb3.mono HB2.out.size)); have HR3 := Lib.hid (RBox.below HR2.out hb3); have HZ3 := Lib.hid (RowAt.below HZ2.out hb3); have k4 := (RBox.cells HR3.out).2.2.2.2.1; clear hb3)
        | (go_at_call 37; (with_reducible refine (P2.out _ HB3.out).mono ?_); rintro e w4 ⟨rfl, hb4⟩; have HB4 := Lib.hid (HB3.out.trans (hb4.mono HB3.out.size)); have HR4 := Lib.hid (RBox.below HR3.out hb4); have HZ4 := Lib.hid (RowAt.below HZ3.out hb4); have HI4 := Lib.hid (HI.out.below HB4.out); clear hb4 k4)
        | (refine store_row rfl 31 _ _ rfl w1.heap.size _ zeroD (refL V S) rfl rfl HZ4.out rfl infoD (refL_one _ _) ?_; intro w9 hr9 hg9 _; have HB9 := Lib.hid (HB4.out.grown hg9 HB4.out.size (fun k hk => by cases hk; exact HW1.out))))
      exact bodyPost_ret (results_ref2 rfl _ _ w1.heap.size V S rfl hr9) rfl ⟨V, by rw [HE.out]; rfl, rfl, rfl, by rw [HE.out]; exact .inr ⟨rfl, fun _ h => h⟩, HB9.out⟩
    | some k =>
      have e9 : lookZ S.now s = (k : Int) := by unfold lookZ; rw [hk]
      rw [e9] at P2
      have hk0 : (0 : Int) ≤ (k : Int) := by omega
      cases ha : armF S with
      | true =>
        have HE := Lib.hid (turnS_arm (t := t) hz hk ha)
        have hA2 := ha
        clear h hm hok hfew hz e9 hk har ha
        go_enter Try.func21, Try.ntmps21
        go_wp2_with (first
          | (refine box_row rfl 31 (.tmp 0) (refL V S) rfl rfl ?_; intro w1 hr1 hb1 hs1; have HB1 := Lib.hid hb1; have HR1 := Lib.hid hr1; have HS1 := Lib.hid hs1; clear hb1 hr1 hs1)
          | (refine alloc_row rfl 31 zeroD rfl zero_disk ?_; intro w2 hr2 hb2 hs2; have HB2 := Lib.hid (HB1.out.trans (hb2.mono HB1.out.size)); have HR2 := Lib.hid (RBox.below HR1.out hb2); have HZ2 := Lib.hid hr2; have HNE := Lib.hid (show w1.heap.size ≠ w.heap.size by have := HS1.out; omega); have HW1 := Lib.hid HB1.out.size; clear hr2 hb2 hs2)
          | (refine load_row rfl 31 _ rfl w.heap.size _ (refL V5 (armS S)) _ rfl HR7.out Try.underlying31 rfl infoD ?_)
          | (refine load_row rfl 31 _ rfl w.heap.size _ (refL V S) _ rfl HR4.out Try.underlying31 rfl infoD ?_)
          | (refine load_row rfl 31 _ rfl w.heap.size _ (refL V S) _ rfl HR2.out Try.underlying31 rfl infoD ?_)
          | (go_at_call 34; (with_reducible refine (P1.out _).mono ?_); rintro e w3 ⟨rfl, hb3⟩; have HB3 := Lib.hid (HB2.out.trans (hb3.mono HB2.out.size)); have HR3 := Lib.hid (RBox.below HR2.out hb3); have HZ3 := Lib.hid (RowAt.below HZ2.out hb3); have k4 := (RBox.cells HR3.out).2.2.2.2.1; clear hb3)
          | (go_at_call 37; (with_reducible refine (P2.out _ HB3.out).mono ?_); rintro e w4 ⟨rfl, hb4⟩; have HB4 := Lib.hid (HB3.out.trans (hb4.mono HB3.out.size)); have HR4 := Lib.hid (RBox.below HR3.out hb4); have HZ4 := Lib.hid (RowAt.below HZ3.out hb4); have HI4 := Lib.hid (HI.out.below HB4.out); clear hb4 k4)
          | (go_at_call 35; (with_reducible refine (refCopy_any V S _ HI4.out HIV.out HFW.out).mono ?_); rintro e w5 ⟨V5, rfl, hm5, hq5, ho5, hb5⟩; have HB5 := Lib.hid (HB4.out.trans (hb5.mono HB4.out.size)); have HR5 := Lib.hid (RBox.below HR4.out hb5); have HZ5 := Lib.hid (RowAt.below HZ4.out hb5); have HO5 := Lib.hid ho5; have HM5 := Lib.hid hm5; have HQ5 := Lib.hid hq5; have HS5 := Lib.hid hb5.size; have HL4 := Lib.hid (show w.heap.size < w4.heap.size ∧ w1.heap.size < w4.heap.size from ⟨HR4.out.lt, HZ4.out.lt⟩); clear ho5 hb5 hm5 hq5)
          | (go_at_call 36; (with_reducible refine (refArmed_any V5 S _ HDN.out HAR.out).mono ?_); rintro e w6 ⟨rfl, hb6⟩; rw [hA2]; have HB6 := Lib.hid (HB5.out.trans (hb6.mono HB5.out.size)); have HR6 := Lib.hid (RBox.below HR5.out hb6); have HZ6 := Lib.hid (RowAt.below HZ5.out hb6); have HO6 := Lib.hid (show RefOwn w6 w4.heap.size V5 (armS S) from (by obtain ⟨R, h1, h2⟩ := HO5.out; exact ⟨R, h1.below hb6, h2⟩)); have HS6 := Lib.hid (Nat.le_trans HS5.out hb6.size); clear hb6)
          | (refine store_row rfl 31 _ _ rfl w.heap.size _ (refL V S) (refL V5 (armS S)) rfl rfl HR6.out rfl infoD (refL_one _ _) ?_; intro w7 hr7 hg7 hs7; have HB7 := Lib.hid (HB6.out.grown hg7 HB6.out.size (fun k hk => by cases hk; exact Nat.le_refl _)); have HR7 := Lib.hid (show RBox w7 w.heap.size V5 (armS S) from hr7); have HZ7 := Lib.hid (RowAt.grown HZ6.out hg7 (fun e => HNE.out (Option.some.inj e))); have HO7 := Lib.hid (show RefOwn w7 w4.heap.size V5 (armS S) from (by obtain ⟨R, h1, h2⟩ := HO6.out; exact ⟨R, h1.grownLow HL4.out.1 hg7, h2⟩)); have HS7 := Lib.hid (show w4.heap.size ≤ w7.heap.size by rw [hs7]; exact HS6.out); clear hr7 hg7 hs7)
          | (refine store_row rfl 31 _ _ rfl w1.heap.size _ zeroD (refL V5 (armS S)) rfl rfl HZ7.out rfl infoD (refL_one _ _) ?_; intro w9 hr9 hg9 _; have HB9 := Lib.hid (HB7.out.grown hg9 HB7.out.size (fun k hk => by cases hk; exact HW1.out))))
        exact bodyPost_ret (results_ref2 rfl _ _ w1.heap.size V5 (armS S) rfl hr9) rfl ⟨V5, by rw [HE.out]; rfl, HM5.out, HQ5.out, by rw [HE.out]; exact .inl (own_far (base := w4.heap.size) (by obtain ⟨R, h1, h2⟩ := HO7.out; exact ⟨R, h1.grownLow HL4.out.2 hg9, h2⟩) (Nat.le_of_lt HL4.out.1)), HB9.out⟩
      | false =>
        have HE := Lib.hid (turnS_ok (t := t) hz hk ha)
        have hA2 := ha
        clear h hm hok hfew hz e9 hk har ha
        go_enter Try.func21, Try.ntmps21
        go_wp2_with (first
          | (refine box_row rfl 31 (.tmp 0) (refL V S) rfl rfl ?_; intro w1 hr1 hb1 hs1; have HB1 := Lib.hid hb1; have HR1 := Lib.hid hr1; have HS1 := Lib.hid hs1; clear hb1 hr1 hs1)
          | (refine alloc_row rfl 31 zeroD rfl zero_disk ?_; intro w2 hr2 hb2 hs2; have HB2 := Lib.hid (HB1.out.trans (hb2.mono HB1.out.size)); have HR2 := Lib.hid (RBox.below HR1.out hb2); have HZ2 := Lib.hid hr2; have HNE := Lib.hid (show w1.heap.size ≠ w.heap.size by have := HS1.out; omega); have HW1 := Lib.hid HB1.out.size; clear hr2 hb2 hs2)
          | (refine load_row rfl 31 _ rfl w.heap.size _ (refL V S) _ rfl HR4.out Try.underlying31 rfl infoD ?_)
          | (refine load_row rfl 31 _ rfl w.heap.size _ (refL V S) _ rfl HR2.out Try.underlying31 rfl infoD ?_)
          | (go_at_call 34; (with_reducible refine (P1.out _).mono ?_); rintro e w3 ⟨rfl, hb3⟩; have HB3 := Lib.hid (HB2.out.trans (hb3.mono HB2.out.size)); have HR3 := Lib.hid (RBox.below HR2.out hb3); have HZ3 := Lib.hid (RowAt.below HZ2.out hb3); have k4 := (RBox.cells HR3.out).2.2.2.2.1; clear hb3)
          | (go_at_call 37; (with_reducible refine (P2.out _ HB3.out).mono ?_); rintro e w4 ⟨rfl, hb4⟩; have HB4 := Lib.hid (HB3.out.trans (hb4.mono HB3.out.size)); have HR4 := Lib.hid (RBox.below HR3.out hb4); have HZ4 := Lib.hid (RowAt.below HZ3.out hb4); have HI4 := Lib.hid (HI.out.below HB4.out); clear hb4 k4)
          | (go_at_call 35; (with_reducible refine (refCopy_any V S _ HI4.out HIV.out HFW.out).mono ?_); rintro e w5 ⟨V5, rfl, hm5, hq5, ho5, hb5⟩; have HB5 := Lib.hid (HB4.out.trans (hb5.mono HB4.out.size)); have HR5 := Lib.hid (RBox.below HR4.out hb5); have HZ5 := Lib.hid (RowAt.below HZ4.out hb5); have HO5 := Lib.hid ho5; have HM5 := Lib.hid hm5; have HQ5 := Lib.hid hq5; have HS5 := Lib.hid hb5.size; have HL4 := Lib.hid (show w.heap.size < w4.heap.size ∧ w1.heap.size < w4.heap.size from ⟨HR4.out.lt, HZ4.out.lt⟩); clear ho5 hb5 hm5 hq5)
          | (go_at_call 36; (with_reducible refine (refArmed_any V5 S _ HDN.out HAR.out).mono ?_); rintro e w6 ⟨rfl, hb6⟩; rw [hA2]; have HB6 := Lib.hid (HB5.out.trans (hb6.mono HB5.out.size)); have HR6 := Lib.hid (RBox.below HR5.out hb6); have HZ6 := Lib.hid (RowAt.below HZ5.out hb6); have HO6 := Lib.hid (show RefOwn w6 w4.heap.size V5 (armS S) from (by obtain ⟨R, h1, h2⟩ := HO5.out; exact ⟨R, h1.below hb6, h2⟩)); have HS6 := Lib.hid (Nat.le_trans HS5.out hb6.size); clear hb6)
          | (refine store_row rfl 31 _ _ rfl w.heap.size _ (refL V S) (refL V5 (armS S)) rfl rfl HR6.out rfl infoD (refL_one _ _) ?_; intro w7 hr7 hg7 hs7; have HB7 := Lib.hid (HB6.out.grown hg7 HB6.out.size (fun k hk => by cases hk; exact Nat.le_refl _)); have HR7 := Lib.hid (show RBox w7 w.heap.size V5 (armS S) from hr7); have HZ7 := Lib.hid (RowAt.grown HZ6.out hg7 (fun e => HNE.out (Option.some.inj e))); have HO7 := Lib.hid (show RefOwn w7 w4.heap.size V5 (armS S) from (by obtain ⟨R, h1, h2⟩ := HO6.out; exact ⟨R, h1.grownLow HL4.out.1 hg7, h2⟩)); have HS7 := Lib.hid (show w4.heap.size ≤ w7.heap.size by rw [hs7]; exact HS6.out); clear hr7 hg7 hs7
             obtain ⟨R, HH, HRR0⟩ := HO7.out
             replace HH : Holds w7 w4.heap.size (partsH V5 S R) := HH
             have HRR := Lib.hid (show R.map (·.l) = S.files.map (·.1) from HRR0)
             have HH7 := Lib.hid (HH.sub (L1 := hG actK 81 (.slice V5.aa V5.na V5.ca) S.acts :: hG entK 67 (.slice V5.ak V5.nk V5.ck) S.kept :: hG numK 3 (.slice V5.ay V5.ny V5.cy) (S.files.map (·.2)) :: hG rowK 35 (.slice V5.af V5.nf V5.cf) R :: R.map hB) (.cons_cons _ (.cons_cons _ (.cons _ (List.Sublist.refl _)))))
             have HNW := Lib.hid (show AtG entK w7 V5.an V5.nn V5.cn S.now from (HH.gG (E := 67) (fun _ => trivial) (by simp)).atG)
             have HNL := Lib.hid (show V5.nn ≤ 10000000 by have := HNW.out.1; have := HIV.out.nowLen HFW.out; omega)
             have HOA := Lib.hid (show OwnG actK 81 w7 w4.heap.size (.slice V5.aa V5.na V5.ca) S.acts from HH.gG (fun _ => trivial) (by simp))
             have HNA := Lib.hid (show V5.na + 1 = S.acts.length + 1 by rw [HOA.out.len])
             have H41 := Lib.hid (show (S.acts.length + 1) * (40 + 1) ≤ 140737488355328 by have := HFW.out.dirs; omega)
             have HN7 := Lib.hid (show w7.heap.size ≠ w.heap.size by have := HS7.out; have := HL4.out.1; omega)
             clear HH HRR0)
          | (refine alloc_row rfl 81 zeroA rfl zero_act ?_; intro w8 hr8 hb8 hs8; have HB8 := Lib.hid hb8; have HA8 := Lib.hid hr8; have HS8 := Lib.hid hs8; clear hr8 hb8 hs8)
          | (refine store_row rfl 81 _ _ rfl w7.heap.size _ zeroA (ractC (⟨s, t, k⟩ : DAct)).toList rfl rfl HA8.out rfl infoA (ract_one _) ?_; intro w9 hr9 hg9 hs9; have HB9 := Lib.hid (HB8.out.grown hg9 HB8.out.size (fun k hk => by cases hk; exact Nat.le_refl _)); have HA9 := Lib.hid hr9; clear hr9 hg9 hs9
             have HBA := HB9; have HAA := HA9
             have HRA := Lib.hid (RBox.below HR7.out HBA.out); have HZA := Lib.hid (RowAt.below HZ7.out HBA.out); have HWA := Lib.hid (HB7.out.trans (HBA.out.mono HB7.out.size))
             have HHA := Lib.hid (HH7.out.below HBA.out)
             have HPT := Lib.hid (refTurned_any V5.an V5.nn V5.cn S.now (⟨s, t, k⟩ : DAct) w9 _ rfl ((HNW.out.below HBA.out).below ((Below.refl _ _).alloc (Nat.le_refl _) _)) HNL.out)
             have k4 := (RBox.cells HRA.out).2.2.2.2.1)
          | (refine load_row rfl 81 _ rfl w7.heap.size _ (ractC (⟨s, t, k⟩ : DAct)).toList _ rfl HAA2.out Try.underlying81 rfl infoA ?_)
          | (refine load_row rfl 81 _ rfl w7.heap.size _ (ractC (⟨s, t, k⟩ : DAct)).toList _ rfl HAA.out Try.underlying81 rfl infoA ?_)
          | (go_at_call 38; (with_reducible refine HPT.out.mono ?_); rintro e w11 ⟨a11, m11, c11, rfl, ho11, hb11⟩
             obtain ⟨wC, hwC⟩ : ∃ wC, w11.setCell ⟨w.heap.size, 4, none⟩ (.slice a11 m11 c11) = wC := ⟨_, rfl⟩
             have HR11 := Lib.hid (RBox.below HRA.out hb11)
             have f4 := HR11.out.free 4; have q4 := (RBox.cells HR11.out).2.2.2.2.1
             have HRC := Lib.hid (show RBox wC w.heap.size { V5 with an := a11, nn := m11, cn := c11 } { armS S with now := turnD S.now (⟨s, t, k⟩ : DAct) } by rw [← hwC]; exact HR11.out.set 4 _)
             have HZC := Lib.hid (show RowAt wC w1.heap.size 31 zeroD by rw [← hwC]; exact (HZA.out.below hb11).other (show w1.heap.size ≠ w.heap.size from HNE.out) _)
             have HBC := Lib.hid (show Below w.heap.size w wC by rw [← hwC]; exact (HWA.out.trans (hb11.mono HWA.out.size)).setCell (Nat.le_refl _) _)
             have HAA2 := Lib.hid (show RowAt wC w7.heap.size 81 (ractC (⟨s, t, k⟩ : DAct)).toList by rw [← hwC]; exact (HAA.out.below hb11).other (show w7.heap.size ≠ w.heap.size from HN7.out) _)
             have HHC := Lib.hid (show Holds wC w4.heap.size (hG actK 81 (.slice V5.aa V5.na V5.ca) S.acts :: hG entK 67 (.slice a11 m11 c11) (turnD S.now (⟨s, t, k⟩ : DAct)) :: hG entK 67 (.slice V5.ak V5.nk V5.ck) S.kept :: hG numK 3 (.slice V5.ay V5.ny V5.cy) (S.files.map (·.2)) :: hG rowK 35 (.slice V5.af V5.nf V5.cf) R :: R.map hB) by
               rw [← hwC]
               exact ((HHA.out.add (h := hG entK 67 (.slice a11 m11 c11) (turnD S.now (⟨s, t, k⟩ : DAct))) ho11.1 hb11 (Nat.le_trans HS7.out HBA.out.size)).perm (List.Perm.swap _ _ _)).setLow HL4.out.1 4 _)
             have HOC := Lib.hid (show OwnG actK 81 wC w4.heap.size (.slice V5.aa V5.na V5.ca) S.acts from HHC.out.gG (fun _ => trivial) List.mem_cons_self)
             have HSC := Lib.hid (show w4.heap.size ≤ wC.heap.size by have e : wC.heap.size = w11.heap.size := (by rw [← hwC]; simp [World.setCell]); rw [e]; exact Nat.le_trans HS7.out (Nat.le_trans HBA.out.size hb11.size))
             have k6 := (RBox.cells HRC.out).2.2.2.2.2.2.1
             clear ho11 hb11)
          | (refine wpList_plain rfl (fun K hK => wp_sl_act _ rfl (⟨s, t, k⟩ : DAct) rfl (hK _ _ ?_)))
          | ((with_reducible show wpList _ _ _ (⟨some 56, _, _, _, _, _⟩ :: _) _ _); go_must (refine appG_told actK Try.underlying29 actInfo rfl rfl _ _ rfl w4.heap.size (.slice V5.aa V5.na V5.ca) S.acts rfl (HOC.out.alloc _) _ 1 1 [(⟨s, t, k⟩ : DAct)] rfl (oneG _ (⟨s, t, k⟩ : DAct) trivial _ _ rfl) H41.out (Nat.le_trans HSC.out (by simp)) (V5.na + 1) HNA.out ?_); intro a13 c13 w13 ho13 hg13 ht13
             obtain ⟨wE, hwE⟩ : ∃ wE, w13.setCell ⟨w.heap.size, 6, none⟩ (.slice a13 (V5.na + 1) c13) = wE := ⟨_, rfl⟩
             have HBL := Lib.hid ((Below.refl wC.heap.size wC).alloc (Nat.le_refl _) (.cells (actK.cells (⟨s, t, k⟩ : DAct)).toArray 81))
             have HRD := Lib.hid ((RBox.below HRC.out HBL.out).grown hg13 (fun e => by have := (HOC.out.lt w.heap.size e.symm).1; have := HL4.out.1; omega))
             have HZD := Lib.hid ((HZC.out.below HBL.out).grown hg13 (fun e => by have := (HOC.out.lt w1.heap.size e.symm).1; have := HL4.out.2; omega))
             have HBD := Lib.hid ((HBC.out.trans (HBL.out.mono HBC.out.size)).grown hg13 (HBC.out.trans (HBL.out.mono HBC.out.size)).size (fun q hq => by have := (HOC.out.lt q hq).1; have := HL4.out.1; omega))
             have HHD := Lib.hid ((HHC.out.below HBL.out).put (h' := hG actK 81 (.slice a13 (V5.na + 1) c13) (S.acts ++ [(⟨s, t, k⟩ : DAct)])) hg13 ho13.1 ht13)
             have f6 := HRD.out.free 6; have q6 := HRD.out.cell 6 (v := .slice V5.aa V5.na V5.ca) rfl
             have HRE := Lib.hid (show RBox wE w.heap.size ({ V5 with an := a11, nn := m11, cn := c11, aa := a13, na := V5.na + 1, ca := c13 } : RVal) (doneS (armS S) (⟨s, t, k⟩ : DAct)) by rw [← hwE]; exact HRD.out.set 6 _)
             have HZE := Lib.hid (show RowAt wE w1.heap.size 31 zeroD by rw [← hwE]; exact HZD.out.other (show w1.heap.size ≠ w.heap.size from HNE.out) _)
             have HBE := Lib.hid (show Below w.heap.size w wE by rw [← hwE]; exact HBD.out.setCell (Nat.le_refl _) _)
             have HHE := Lib.hid (show Holds wE w4.heap.size _ by rw [← hwE]; exact HHD.out.setLow HL4.out.1 6 _)
             clear ho13 hg13 ht13)
          | (refine load_row rfl 31 _ rfl w.heap.size _ (refL ({ V5 with an := a11, nn := m11, cn := c11, aa := a13, na := V5.na + 1, ca := c13 } : RVal) (doneS (armS S) (⟨s, t, k⟩ : DAct))) _ rfl HRE.out Try.underlying31 rfl infoD ?_)
          | (refine store_row rfl 31 _ _ rfl w1.heap.size _ zeroD (refL ({ V5 with an := a11, nn := m11, cn := c11, aa := a13, na := V5.na + 1, ca := c13 } : RVal) (doneS (armS S) (⟨s, t, k⟩ : DAct))) rfl rfl HZE.out rfl infoD (refL_one _ _) ?_; intro w20 hr20 hg20 _))
        have HFI := Lib.hid (HHE.out.grownLow HL4.out.2 hg20)
        exact bodyPost_ret (results_ref2 rfl _ _ w1.heap.size ({ V5 with an := a11, nn := m11, cn := c11, aa := a13, na := V5.na + 1, ca := c13 } : RVal) (doneS (armS S) (⟨s, t, k⟩ : DAct)) rfl hr20) rfl ⟨({ V5 with an := a11, nn := m11, cn := c11, aa := a13, na := V5.na + 1, ca := c13 } : RVal), by rw [HE.out]; rfl, HM5.out, HQ5.out, by rw [HE.out]; exact .inl (holds_far HFI.out (Nat.le_of_lt HL4.out.1) (fun W'' HFJ => ⟨rows_in HFJ (by simp) (fun x hx => by simp only [List.mem_cons, List.mem_map]; exact .inr (.inr (.inr (.inr (.inr ⟨x, hx, rfl⟩))))) HRR.out, (HFJ.gG (E := 3) (K := numK) (v := .slice V5.ay V5.ny V5.cy) (M := S.files.map (fun x : FileD => x.2)) (fun _ => trivial) (by simp)).atG, (HFJ.gG (E := 67) (K := entK) (v := .slice a11 m11 c11) (M := turnD S.now (⟨s, t, k⟩ : DAct)) (fun _ => trivial) (by simp)).atG, (HFJ.gG (E := 67) (K := entK) (v := .slice V5.ak V5.nk V5.ck) (M := S.kept) (fun _ => trivial) (by simp)).atG, (HFJ.gG (E := 81) (K := actK) (v := .slice a13 (V5.na + 1) c13) (M := S.acts ++ [(⟨s, t, k⟩ : DAct)]) (fun _ => trivial) (by simp)).atG⟩)), HBE.out.grown hg20 HBE.out.size (fun k hk => by cases hk; exact HW1.out)⟩
  · have HE := Lib.hid (turnS_bad (t := t) hz h0)
    have hz0 : ((z : Int) == 0) = false := by simp; omega
    have hz1 : ((z : Int) != 0) = true := by simp; omega
    clear h hm hok hfew hz h0 har
    go_enter Try.func21, Try.ntmps21
    go_wp2_with (first
      | (refine box_row rfl 31 (.tmp 0) (refL V S) rfl rfl ?_; intro w1 hr1 hb1 hs1; have HB1 := Lib.hid hb1; have HR1 := Lib.hid hr1; have HS1 := Lib.hid hs1; clear hb1 hr1 hs1)
      | (refine alloc_row rfl 31 zeroD rfl zero_disk ?_; intro w2 hr2 hb2 hs2; have HB2 := Lib.hid (HB1.out.trans (hb2.mono HB1.out.size)); have HR2 := Lib.hid (RBox.below HR1.out hb2); have HZ2 := Lib.hid hr2; have HNE := Lib.hid (show w1.heap.size ≠ w.heap.size by have := HS1.out; omega); have HW1 := Lib.hid HB1.out.size; clear hr2 hb2 hs2)
      | (refine load_row rfl 31 _ rfl w.heap.size _ (refL V S) _ rfl HR3.out Try.underlying31 rfl infoD ?_)
      | (refine load_row rfl 31 _ rfl w.heap.size _ (refL V S) _ rfl HR2.out Try.underlying31 rfl infoD ?_)
      | (go_at_call 34; (with_reducible refine (P1.out _).mono ?_); rintro e w3 ⟨rfl, hb3⟩; have HB3 := Lib.hid (HB2.out.trans (hb3.mono HB2.out.size)); have HR3 := Lib.hid (RBox.below HR2.out hb3); have HZ3 := Lib.hid (RowAt.below HZ2.out hb3); have k4 := (RBox.cells HR3.out).2.2.2.2.1; clear hb3)
      | (refine store_row rfl 31 _ _ rfl w1.heap.size _ zeroD (refL V S) rfl rfl HZ3.out rfl infoD (refL_one _ _) ?_; intro w9 hr9 hg9 _; have HB9 := Lib.hid (HB3.out.grown hg9 HB3.out.size (fun k hk => by cases hk; exact HW1.out))))
    exact bodyPost_ret (results_ref2 rfl _ _ w1.heap.size V S rfl hr9) rfl ⟨V, by rw [HE.out]; rfl, rfl, rfl, by rw [HE.out]; exact .inr ⟨rfl, fun _ h => h⟩, HB9.out⟩
set_option maxRecDepth 100000 in
set_option maxHeartbeats 4000000 in
theorem refDrop_any (V : RVal) (S : DS) (s t : Nm) (w : World) (h : RefIn w V S) (hm : V.made = true) (hok : Inv S) (hfew : Few S 10000) (har : S.arm ≤ 9223372036854775807) :
    Calls Try.prog 21 #[.agg (refC V S), .string (strB s), .string (strB t), .bool true] w (RefEnd w V S (turnS S s s [])) := by
  obtain ⟨z, hz⟩ : ∃ z, readyS S s s = z := ⟨_, rfl⟩
  have HI := Lib.hid h
  have HIV := Lib.hid hok
  have HFW := Lib.hid (hfew.mono (show 10000 ≤ 100000 by omega))
  have P1 := Lib.hid (fun W => refReady_any V S s s W hm hz)
  have P2 := Lib.hid (fun W (hb : Below w.heap.size w W) => refLook_any V.an V.nn V.cn S.now s W (h.now.below hb))
  have HZI := Lib.hid (show (0 : Int) ≤ (z : Int) by omega)
  have HAR := Lib.hid har
  by_cases h0 : z = 0
  · subst h0
    have HDN := Lib.hid (ready_may hz).1
    cases hk : look S.now s with
    | none =>
      have HE := Lib.hid (turnS_none (t := []) hz hk)
      have e9 : lookZ S.now s = -1 := by unfold lookZ; rw [hk]
      rw [e9] at P2
      clear h hm hok hfew hz e9 hk har
      go_enter Try.func21, Try.ntmps21
      go_wp2_with (first
        | (refine box_row rfl 31 (.tmp 0) (refL V S) rfl rfl ?_; intro w1 hr1 hb1 hs1; have HB1 := Lib.hid hb1; have HR1 := Lib.hid hr1; have HS1 := Lib.hid hs1; clear hb1 hr1 hs1)
        | (refine alloc_row rfl 31 zeroD rfl zero_disk ?_; intro w2 hr2 hb2 hs2; have HB2 := Lib.hid (HB1.out.trans (hb2.mono HB1.out.size)); have HR2 := Lib.hid (RBox.below HR1.out hb2); have HZ2 := Lib.hid hr2; have HNE := Lib.hid (show w1.heap.size ≠ w.heap.size by have := HS1.out; omega); have HW1 := Lib.hid HB1.out.size; clear hr2 hb2 hs2)
        | (refine load_row rfl 31 _ rfl w.heap.size _ (refL V S) _ rfl HR4.out Try.underlying31 rfl infoD ?_)
        | (refine load_row rfl 31 _ rfl w.heap.size _ (refL V S) _ rfl HR2.out Try.underlying31 rfl infoD ?_)
        | (go_at_call 34; (with_reducible refine (P1.out _).mono ?_); rintro e w3 ⟨rfl, hb3⟩; have HB3 := Lib.hid (HB2.out.trans (hb3.mono HB2.out.size)); have HR3 := Lib.hid (RBox.below HR2.out hb3); have HZ3 := Lib.hid (RowAt.below HZ2.out hb3); have k4 := (RBox.cells HR3.out).2.2.2.2.1; clear hb3)
        | (go_at_call 37; (with_reducible refine (P2.out _ HB3.out).mono ?_); rintro e w4 ⟨rfl, hb4⟩; have HB4 := Lib.hid (HB3.out.trans (hb4.mono HB3.out.size)); have HR4 := Lib.hid (RBox.below HR3.out hb4); have HZ4 := Lib.hid (RowAt.below HZ3.out hb4); have HI4 := Lib.hid (HI.out.below HB4.out); clear hb4 k4)
        | (refine store_row rfl 31 _ _ rfl w1.heap.size _ zeroD (refL V S) rfl rfl HZ4.out rfl infoD (refL_one _ _) ?_; intro w9 hr9 hg9 _; have HB9 := Lib.hid (HB4.out.grown hg9 HB4.out.size (fun k hk => by cases hk; exact HW1.out))))
      exact bodyPost_ret (results_ref2 rfl _ _ w1.heap.size V S rfl hr9) rfl ⟨V, by rw [HE.out]; rfl, rfl, rfl, by rw [HE.out]; exact .inr ⟨rfl, fun _ h => h⟩, HB9.out⟩
    | some k =>
      have e9 : lookZ S.now s = (k : Int) := by unfold lookZ; rw [hk]
      rw [e9] at P2
      have hk0 : (0 : Int) ≤ (k : Int) := by omega
      cases ha : armF S with
      | true =>
        have HE := Lib.hid (turnS_arm (t := []) hz hk ha)
        have hA2 := ha
        clear h hm hok hfew hz e9 hk har ha
        go_enter Try.func21, Try.ntmps21
        go_wp2_with (first
          | (refine box_row rfl 31 (.tmp 0) (refL V S) rfl rfl ?_; intro w1 hr1 hb1 hs1; have HB1 := Lib.hid hb1; have HR1 := Lib.hid hr1; have HS1 := Lib.hid hs1; clear hb1 hr1 hs1)
          | (refine alloc_row rfl 31 zeroD rfl zero_disk ?_; intro w2 hr2 hb2 hs2; have HB2 := Lib.hid (HB1.out.trans (hb2.mono HB1.out.size)); have HR2 := Lib.hid (RBox.below HR1.out hb2); have HZ2 := Lib.hid hr2; have HNE := Lib.hid (show w1.heap.size ≠ w.heap.size by have := HS1.out; omega); have HW1 := Lib.hid HB1.out.size; clear hr2 hb2 hs2)
          | (refine load_row rfl 31 _ rfl w.heap.size _ (refL V5 (armS S)) _ rfl HR7.out Try.underlying31 rfl infoD ?_)
          | (refine load_row rfl 31 _ rfl w.heap.size _ (refL V S) _ rfl HR4.out Try.underlying31 rfl infoD ?_)
          | (refine load_row rfl 31 _ rfl w.heap.size _ (refL V S) _ rfl HR2.out Try.underlying31 rfl infoD ?_)
          | (go_at_call 34; (with_reducible refine (P1.out _).mono ?_); rintro e w3 ⟨rfl, hb3⟩; have HB3 := Lib.hid (HB2.out.trans (hb3.mono HB2.out.size)); have HR3 := Lib.hid (RBox.below HR2.out hb3); have HZ3 := Lib.hid (RowAt.below HZ2.out hb3); have k4 := (RBox.cells HR3.out).2.2.2.2.1; clear hb3)
          | (go_at_call 37; (with_reducible refine (P2.out _ HB3.out).mono ?_); rintro e w4 ⟨rfl, hb4⟩; have HB4 := Lib.hid (HB3.out.trans (hb4.mono HB3.out.size)); have HR4 := Lib.hid (RBox.below HR3.out hb4); have HZ4 := Lib.hid (RowAt.below HZ3.out hb4); have HI4 := Lib.hid (HI.out.below HB4.out); clear hb4 k4)
          | (go_at_call 35; (with_reducible refine (refCopy_any V S _ HI4.out HIV.out HFW.out).mono ?_); rintro e w5 ⟨V5, rfl, hm5, hq5, ho5, hb5⟩; have HB5 := Lib.hid (HB4.out.trans (hb5.mono HB4.out.size)); have HR5 := Lib.hid (RBox.below HR4.out hb5); have HZ5 := Lib.hid (RowAt.below HZ4.out hb5); have HO5 := Lib.hid ho5; have HM5 := Lib.hid hm5; have HQ5 := Lib.hid hq5; have HS5 := Lib.hid hb5.size; have HL4 := Lib.hid (show w.heap.size < w4.heap.size ∧ w1.heap.size < w4.heap.size from ⟨HR4.out.lt, HZ4.out.lt⟩); clear ho5 hb5 hm5 hq5)
          | (go_at_call 36; (with_reducible refine (refArmed_any V5 S _ HDN.out HAR.out).mono ?_); rintro e w6 ⟨rfl, hb6⟩; rw [hA2]; have HB6 := Lib.hid (HB5.out.trans (hb6.mono HB5.out.size)); have HR6 := Lib.hid (RBox.below HR5.out hb6); have HZ6 := Lib.hid (RowAt.below HZ5.out hb6); have HO6 := Lib.hid (show RefOwn w6 w4.heap.size V5 (armS S) from (by obtain ⟨R, h1, h2⟩ := HO5.out; exact ⟨R, h1.below hb6, h2⟩)); have HS6 := Lib.hid (Nat.le_trans HS5.out hb6.size); clear hb6)
          | (refine store_row rfl 31 _ _ rfl w.heap.size _ (refL V S) (refL V5 (armS S)) rfl rfl HR6.out rfl infoD (refL_one _ _) ?_; intro w7 hr7 hg7 hs7; have HB7 := Lib.hid (HB6.out.grown hg7 HB6.out.size (fun k hk => by cases hk; exact Nat.le_refl _)); have HR7 := Lib.hid (show RBox w7 w.heap.size V5 (armS S) from hr7); have HZ7 := Lib.hid (RowAt.grown HZ6.out hg7 (fun e => HNE.out (Option.some.inj e))); have HO7 := Lib.hid (show RefOwn w7 w4.heap.size V5 (armS S) from (by obtain ⟨R, h1, h2⟩ := HO6.out; exact ⟨R, h1.grownLow HL4.out.1 hg7, h2⟩)); have HS7 := Lib.hid (show w4.heap.size ≤ w7.heap.size by rw [hs7]; exact HS6.out); clear hr7 hg7 hs7)
          | (refine store_row rfl 31 _ _ rfl w1.heap.size _ zeroD (refL V5 (armS S)) rfl rfl HZ7.out rfl infoD (refL_one _ _) ?_; intro w9 hr9 hg9 _; have HB9 := Lib.hid (HB7.out.grown hg9 HB7.out.size (fun k hk => by cases hk; exact HW1.out))))
        exact bodyPost_ret (results_ref2 rfl _ _ w1.heap.size V5 (armS S) rfl hr9) rfl ⟨V5, by rw [HE.out]; rfl, HM5.out, HQ5.out, by rw [HE.out]; exact .inl (own_far (base := w4.heap.size) (by obtain ⟨R, h1, h2⟩ := HO7.out; exact ⟨R, h1.grownLow HL4.out.2 hg9, h2⟩) (Nat.le_of_lt HL4.out.1)), HB9.out⟩
      | false =>
        have HE := Lib.hid (turnS_ok (t := []) hz hk ha)
        have hA2 := ha
        clear h hm hok hfew hz e9 hk har ha
        go_enter Try.func21, Try.ntmps21
        go_wp2_with (first
          | (refine box_row rfl 31 (.tmp 0) (refL V S) rfl rfl ?_; intro w1 hr1 hb1 hs1; have HB1 := Lib.hid hb1; have HR1 := Lib.hid hr1; have HS1 := Lib.hid hs1; clear hb1 hr1 hs1)
          | (refine alloc_row rfl 31 zeroD rfl zero_disk ?_; intro w2 hr2 hb2 hs2; have HB2 := Lib.hid (HB1.out.trans (hb2.mono HB1.out.size)); have HR2 := Lib.hid (RBox.below HR1.out hb2); have HZ2 := Lib.hid hr2; have HNE := Lib.hid (show w1.heap.size ≠ w.heap.size by have := HS1.out; omega); have HW1 := Lib.hid HB1.out.size; clear hr2 hb2 hs2)
          | (refine load_row rfl 31 _ rfl w.heap.size _ (refL V S) _ rfl HR4.out Try.underlying31 rfl infoD ?_)
          | (refine load_row rfl 31 _ rfl w.heap.size _ (refL V S) _ rfl HR2.out Try.underlying31 rfl infoD ?_)
          | (go_at_call 34; (with_reducible refine (P1.out _).mono ?_); rintro e w3 ⟨rfl, hb3⟩; have HB3 := Lib.hid (HB2.out.trans (hb3.mono HB2.out.size)); have HR3 := Lib.hid (RBox.below HR2.out hb3); have HZ3 := Lib.hid (RowAt.below HZ2.out hb3); have k4 := (RBox.cells HR3.out).2.2.2.2.1; clear hb3)
          | (go_at_call 37; (with_reducible refine (P2.out _ HB3.out).mono ?_); rintro e w4 ⟨rfl, hb4⟩; have HB4 := Lib.hid (HB3.out.trans (hb4.mono HB3.out.size)); have HR4 := Lib.hid (RBox.below HR3.out hb4); have HZ4 := Lib.hid (RowAt.below HZ3.out hb4); have HI4 := Lib.hid (HI.out.below HB4.out); clear hb4 k4)
          | (go_at_call 35; (with_reducible refine (refCopy_any V S _ HI4.out HIV.out HFW.out).mono ?_); rintro e w5 ⟨V5, rfl, hm5, hq5, ho5, hb5⟩; have HB5 := Lib.hid (HB4.out.trans (hb5.mono HB4.out.size)); have HR5 := Lib.hid (RBox.below HR4.out hb5); have HZ5 := Lib.hid (RowAt.below HZ4.out hb5); have HO5 := Lib.hid ho5; have HM5 := Lib.hid hm5; have HQ5 := Lib.hid hq5; have HS5 := Lib.hid hb5.size; have HL4 := Lib.hid (show w.heap.size < w4.heap.size ∧ w1.heap.size < w4.heap.size from ⟨HR4.out.lt, HZ4.out.lt⟩); clear ho5 hb5 hm5 hq5)
          | (go_at_call 36; (with_reducible refine (refArmed_any V5 S _ HDN.out HAR.out).mono ?_); rintro e w6 ⟨rfl, hb6⟩; rw [hA2]; have HB6 := Lib.hid (HB5.out.trans (hb6.mono HB5.out.size)); have HR6 := Lib.hid (RBox.below HR5.out hb6); have HZ6 := Lib.hid (RowAt.below HZ5.out hb6); have HO6 := Lib.hid (show RefOwn w6 w4.heap.size V5 (armS S) from (by obtain ⟨R, h1, h2⟩ := HO5.out; exact ⟨R, h1.below hb6, h2⟩)); have HS6 := Lib.hid (Nat.le_trans HS5.out hb6.size); clear hb6)
          | (refine store_row rfl 31 _ _ rfl w.heap.size _ (refL V S) (refL V5 (armS S)) rfl rfl HR6.out rfl infoD (refL_one _ _) ?_; intro w7 hr7 hg7 hs7; have HB7 := Lib.hid (HB6.out.grown hg7 HB6.out.size (fun k hk => by cases hk; exact Nat.le_refl _)); have HR7 := Lib.hid (show RBox w7 w.heap.size V5 (armS S) from hr7); have HZ7 := Lib.hid (RowAt.grown HZ6.out hg7 (fun e => HNE.out (Option.some.inj e))); have HO7 := Lib.hid (show RefOwn w7 w4.heap.size V5 (armS S) from (by obtain ⟨R, h1, h2⟩ := HO6.out; exact ⟨R, h1.grownLow HL4.out.1 hg7, h2⟩)); have HS7 := Lib.hid (show w4.heap.size ≤ w7.heap.size by rw [hs7]; exact HS6.out); clear hr7 hg7 hs7
             obtain ⟨R, HH, HRR0⟩ := HO7.out
             replace HH : Holds w7 w4.heap.size (partsH V5 S R) := HH
             have HRR := Lib.hid (show R.map (·.l) = S.files.map (·.1) from HRR0)
             have HH7 := Lib.hid (HH.sub (L1 := hG actK 81 (.slice V5.aa V5.na V5.ca) S.acts :: hG entK 67 (.slice V5.ak V5.nk V5.ck) S.kept :: hG numK 3 (.slice V5.ay V5.ny V5.cy) (S.files.map (·.2)) :: hG rowK 35 (.slice V5.af V5.nf V5.cf) R :: R.map hB) (.cons_cons _ (.cons_cons _ (.cons _ (List.Sublist.refl _)))))
             have HNW := Lib.hid (show AtG entK w7 V5.an V5.nn V5.cn S.now from (HH.gG (E := 67) (fun _ => trivial) (by simp)).atG)
             have HNL := Lib.hid (show V5.nn ≤ 10000000 by have := HNW.out.1; have := HIV.out.nowLen HFW.out; omega)
             have HOA := Lib.hid (show OwnG actK 81 w7 w4.heap.size (.slice V5.aa V5.na V5.ca) S.acts from HH.gG (fun _ => trivial) (by simp))
             have HNA := Lib.hid (show V5.na + 1 = S.acts.length + 1 by rw [HOA.out.len])
             have H41 := Lib.hid (show (S.acts.length + 1) * (40 + 1) ≤ 140737488355328 by have := HFW.out.dirs; omega)
             have HN7 := Lib.hid (show w7.heap.size ≠ w.heap.size by have := HS7.out; have := HL4.out.1; omega)
             clear HH HRR0)
          | (refine alloc_row rfl 81 zeroA rfl zero_act ?_; intro w8 hr8 hb8 hs8; have HB8 := Lib.hid hb8; have HA8 := Lib.hid hr8; have HS8 := Lib.hid hs8; clear hr8 hb8 hs8)
          | (refine store_row rfl 81 _ _ rfl w7.heap.size _ zeroA (ractC (⟨s, t, k⟩ : DAct)).toList rfl rfl HA8.out rfl infoA (ract_one _) ?_; intro w9 hr9 hg9 hs9; have HB9 := Lib.hid (HB8.out.grown hg9 HB8.out.size (fun k hk => by cases hk; exact Nat.le_refl _)); have HA9 := Lib.hid hr9; clear hr9 hg9 hs9
             have fA := HA9.out.free 1; have qA := HA9.out.cell 1 (v := .string (strB t)) rfl
             obtain ⟨wA, hwA⟩ : ∃ wA, w9.setCell ⟨w7.heap.size, 1, none⟩ (.string ⟨#[]⟩) = wA := ⟨_, rfl⟩
             have HBA := Lib.hid (show Below w7.heap.size w7 wA by rw [← hwA]; exact HB9.out.setCell (Nat.le_refl _) _)
             have HAA := Lib.hid (show RowAt wA w7.heap.size 81 (ractC (⟨s, [], k⟩ : DAct)).toList by rw [← hwA]; exact HA9.out.set 1 _)
             have HRA := Lib.hid (RBox.below HR7.out HBA.out); have HZA := Lib.hid (RowAt.below HZ7.out HBA.out); have HWA := Lib.hid (HB7.out.trans (HBA.out.mono HB7.out.size))
             have HHA := Lib.hid (HH7.out.below HBA.out)
             have HPT := Lib.hid (refTurned_any V5.an V5.nn V5.cn S.now (⟨s, [], k⟩ : DAct) wA _ rfl ((HNW.out.below HBA.out).below ((Below.refl _ _).alloc (Nat.le_refl _) _)) HNL.out)
             have k4 := (RBox.cells HRA.out).2.2.2.2.1)
          | (refine load_row rfl 81 _ rfl w7.heap.size _ (ractC (⟨s, [], k⟩ : DAct)).toList _ rfl HAA2.out Try.underlying81 rfl infoA ?_)
          | (refine load_row rfl 81 _ rfl w7.heap.size _ (ractC (⟨s, [], k⟩ : DAct)).toList _ rfl HAA.out Try.underlying81 rfl infoA ?_)
          | (go_at_call 38; (with_reducible refine HPT.out.mono ?_); rintro e w11 ⟨a11, m11, c11, rfl, ho11, hb11⟩
             obtain ⟨wC, hwC⟩ : ∃ wC, w11.setCell ⟨w.heap.size, 4, none⟩ (.slice a11 m11 c11) = wC := ⟨_, rfl⟩
             have HR11 := Lib.hid (RBox.below HRA.out hb11)
             have f4 := HR11.out.free 4; have q4 := (RBox.cells HR11.out).2.2.2.2.1
             have HRC := Lib.hid (show RBox wC w.heap.size { V5 with an := a11, nn := m11, cn := c11 } { armS S with now := turnD S.now (⟨s, [], k⟩ : DAct) } by rw [← hwC]; exact HR11.out.set 4 _)
             have HZC := Lib.hid (show RowAt wC w1.heap.size 31 zeroD by rw [← hwC]; exact (HZA.out.below hb11).other (show w1.heap.size ≠ w.heap.size from HNE.out) _)
             have HBC := Lib.hid (show Below w.heap.size w wC by rw [← hwC]; exact (HWA.out.trans (hb11.mono HWA.out.size)).setCell (Nat.le_refl _) _)
             have HAA2 := Lib.hid (show RowAt wC w7.heap.size 81 (ractC (⟨s, [], k⟩ : DAct)).toList by rw [← hwC]; exact (HAA.out.below hb11).other (show w7.heap.size ≠ w.heap.size from HN7.out) _)
             have HHC := Lib.hid (show Holds wC w4.heap.size (hG actK 81 (.slice V5.aa V5.na V5.ca) S.acts :: hG entK 67 (.slice a11 m11 c11) (turnD S.now (⟨s, [], k⟩ : DAct)) :: hG entK 67 (.slice V5.ak V5.nk V5.ck) S.kept :: hG numK 3 (.slice V5.ay V5.ny V5.cy) (S.files.map (·.2)) :: hG rowK 35 (.slice V5.af V5.nf V5.cf) R :: R.map hB) by
               rw [← hwC]
               exact ((HHA.out.add (h := hG entK 67 (.slice a11 m11 c11) (turnD S.now (⟨s, [], k⟩ : DAct))) ho11.1 hb11 (Nat.le_trans HS7.out HBA.out.size)).perm (List.Perm.swap _ _ _)).setLow HL4.out.1 4 _)
             have HOC := Lib.hid (show OwnG actK 81 wC w4.heap.size (.slice V5.aa V5.na V5.ca) S.acts from HHC.out.gG (fun _ => trivial) List.mem_cons_self)
             have HSC := Lib.hid (show w4.heap.size ≤ wC.heap.size by have e : wC.heap.size = w11.heap.size := (by rw [← hwC]; simp [World.setCell]); rw [e]; exact Nat.le_trans HS7.out (Nat.le_trans HBA.out.size hb11.size))
             have k6 := (RBox.cells HRC.out).2.2.2.2.2.2.1
             clear ho11 hb11)
          | (refine wpList_plain rfl (fun K hK => wp_sl_act _ rfl (⟨s, [], k⟩ : DAct) rfl (hK _ _ ?_)))
          | ((with_reducible show wpList _ _ _ (⟨some 56, _, _, _, _, _⟩ :: _) _ _); go_must (refine appG_told actK Try.underlying29 actInfo rfl rfl _ _ rfl w4.heap.size (.slice V5.aa V5.na V5.ca) S.acts rfl (HOC.out.alloc _) _ 1 1 [(⟨s, [], k⟩ : DAct)] rfl (oneG _ (⟨s, [], k⟩ : DAct) trivial _ _ rfl) H41.out (Nat.le_trans HSC.out (by simp)) (V5.na + 1) HNA.out ?_); intro a13 c13 w13 ho13 hg13 ht13
             obtain ⟨wE, hwE⟩ : ∃ wE, w13.setCell ⟨w.heap.size, 6, none⟩ (.slice a13 (V5.na + 1) c13) = wE := ⟨_, rfl⟩
             have HBL := Lib.hid ((Below.refl wC.heap.size wC).alloc (Nat.le_refl _) (.cells (actK.cells (⟨s, [], k⟩ : DAct)).toArray 81))
             have HRD := Lib.hid ((RBox.below HRC.out HBL.out).grown hg13 (fun e => by have := (HOC.out.lt w.heap.size e.symm).1; have := HL4.out.1; omega))
             have HZD := Lib.hid ((HZC.out.below HBL.out).grown hg13 (fun e => by have := (HOC.out.lt w1.heap.size e.symm).1; have := HL4.out.2; omega))
             have HBD := Lib.hid ((HBC.out.trans (HBL.out.mono HBC.out.size)).grown hg13 (HBC.out.trans (HBL.out.mono HBC.out.size)).size (fun q hq => by have := (HOC.out.lt q hq).1; have := HL4.out.1; omega))
             have HHD := Lib.hid ((HHC.out.below HBL.out).put (h' := hG actK 81 (.slice a13 (V5.na + 1) c13) (S.acts ++ [(⟨s, [], k⟩ : DAct)])) hg13 ho13.1 ht13)
             have f6 := HRD.out.free 6; have q6 := HRD.out.cell 6 (v := .slice V5.aa V5.na V5.ca) rfl
             have HRE := Lib.hid (show RBox wE w.heap.size ({ V5 with an := a11, nn := m11, cn := c11, aa := a13, na := V5.na + 1, ca := c13 } : RVal) (doneS (armS S) (⟨s, [], k⟩ : DAct)) by rw [← hwE]; exact HRD.out.set 6 _)
             have HZE := Lib.hid (show RowAt wE w1.heap.size 31 zeroD by rw [← hwE]; exact HZD.out.other (show w1.heap.size ≠ w.heap.size from HNE.out) _)
             have HBE := Lib.hid (show Below w.heap.size w wE by rw [← hwE]; exact HBD.out.setCell (Nat.le_refl _) _)
             have HHE := Lib.hid (show Holds wE w4.heap.size _ by rw [← hwE]; exact HHD.out.setLow HL4.out.1 6 _)
             clear ho13 hg13 ht13)
          | (refine load_row rfl 31 _ rfl w.heap.size _ (refL ({ V5 with an := a11, nn := m11, cn := c11, aa := a13, na := V5.na + 1, ca := c13 } : RVal) (doneS (armS S) (⟨s, [], k⟩ : DAct))) _ rfl HRE.out Try.underlying31 rfl infoD ?_)
          | (refine store_row rfl 31 _ _ rfl w1.heap.size _ zeroD (refL ({ V5 with an := a11, nn := m11, cn := c11, aa := a13, na := V5.na + 1, ca := c13 } : RVal) (doneS (armS S) (⟨s, [], k⟩ : DAct))) rfl rfl HZE.out rfl infoD (refL_one _ _) ?_; intro w20 hr20 hg20 _))
        have HFI := Lib.hid (HHE.out.grownLow HL4.out.2 hg20)
        exact bodyPost_ret (results_ref2 rfl _ _ w1.heap.size ({ V5 with an := a11, nn := m11, cn := c11, aa := a13, na := V5.na + 1, ca := c13 } : RVal) (doneS (armS S) (⟨s, [], k⟩ : DAct)) rfl hr20) rfl ⟨({ V5 with an := a11, nn := m11, cn := c11, aa := a13, na := V5.na + 1, ca := c13 } : RVal), by rw [HE.out]; rfl, HM5.out, HQ5.out, by rw [HE.out]; exact .inl (holds_far HFI.out (Nat.le_of_lt HL4.out.1) (fun W'' HFJ => ⟨rows_in HFJ (by simp) (fun x hx => by simp only [List.mem_cons, List.mem_map]; exact .inr (.inr (.inr (.inr (.inr ⟨x, hx, rfl⟩))))) HRR.out, (HFJ.gG (E := 3) (K := numK) (v := .slice V5.ay V5.ny V5.cy) (M := S.files.map (fun x : FileD => x.2)) (fun _ => trivial) (by simp)).atG, (HFJ.gG (E := 67) (K := entK) (v := .slice a11 m11 c11) (M := turnD S.now (⟨s, [], k⟩ : DAct)) (fun _ => trivial) (by simp)).atG, (HFJ.gG (E := 67) (K := entK) (v := .slice V5.ak V5.nk V5.ck) (M := S.kept) (fun _ => trivial) (by simp)).atG, (HFJ.gG (E := 81) (K := actK) (v := .slice a13 (V5.na + 1) c13) (M := S.acts ++ [(⟨s, [], k⟩ : DAct)]) (fun _ => trivial) (by simp)).atG⟩)), HBE.out.grown hg20 HBE.out.size (fun k hk => by cases hk; exact HW1.out)⟩
  · have HE := Lib.hid (turnS_bad (t := []) hz h0)
    have hz0 : ((z : Int) == 0) = false := by simp; omega
    have hz1 : ((z : Int) != 0) = true := by simp; omega
    clear h hm hok hfew hz h0 har
    go_enter Try.func21, Try.ntmps21
    go_wp2_with (first
      | (refine box_row rfl 31 (.tmp 0) (refL V S) rfl rfl ?_; intro w1 hr1 hb1 hs1; have HB1 := Lib.hid hb1; have HR1 := Lib.hid hr1; have HS1 := Lib.hid hs1; clear hb1 hr1 hs1)
      | (refine alloc_row rfl 31 zeroD rfl zero_disk ?_; intro w2 hr2 hb2 hs2; have HB2 := Lib.hid (HB1.out.trans (hb2.mono HB1.out.size)); have HR2 := Lib.hid (RBox.below HR1.out hb2); have HZ2 := Lib.hid hr2; have HNE := Lib.hid (show w1.heap.size ≠ w.heap.size by have := HS1.out; omega); have HW1 := Lib.hid HB1.out.size; clear hr2 hb2 hs2)
      | (refine load_row rfl 31 _ rfl w.heap.size _ (refL V S) _ rfl HR3.out Try.underlying31 rfl infoD ?_)
      | (refine load_row rfl 31 _ rfl w.heap.size _ (refL V S) _ rfl HR2.out Try.underlying31 rfl infoD ?_)
      | (go_at_call 34; (with_reducible refine (P1.out _).mono ?_); rintro e w3 ⟨rfl, hb3⟩; have HB3 := Lib.hid (HB2.out.trans (hb3.mono HB2.out.size)); have HR3 := Lib.hid (RBox.below HR2.out hb3); have HZ3 := Lib.hid (RowAt.below HZ2.out hb3); have k4 := (RBox.cells HR3.out).2.2.2.2.1; clear hb3)
      | (refine store_row rfl 31 _ _ rfl w1.heap.size _ zeroD (refL V S) rfl rfl HZ3.out rfl infoD (refL_one _ _) ?_; intro w9 hr9 hg9 _; have HB9 := Lib.hid (HB3.out.grown hg9 HB3.out.size (fun k hk => by cases hk; exact HW1.out))))
    exact bodyPost_ret (results_ref2 rfl _ _ w1.heap.size V S rfl hr9) rfl ⟨V, by rw [HE.out]; rfl, rfl, rfl, by rw [HE.out]; exact .inr ⟨rfl, fun _ h => h⟩, HB9.out⟩
#print axioms refDrop_any
end Go.Proofs.Ytemphljkfpkgmaa
