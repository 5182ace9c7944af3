/-
  The walk of the document's own sum.
-/
import Derived.Test.YtcnhifkpflaibaaDoorShaDoc
namespace Go.Proofs.YtcnhifkpflaibaaDoor
open Go.RowKit

set_option maxRecDepth 100000 in
set_option maxHeartbeats 40000000 in
theorem rsum_any (a : Option Addr) (n c : Nat) (l : List UInt8) (w : World) (hb : Bytes w a n c l) (hl : l.length ≤ 1000000) :
    Calls Tryd.prog 32 #[.slice a n c] w fun e w' => e = .returned (.agg (bytesV (sumF l)).toArray) ∧ Below w.heap.size w w' := by
  have HL := Lib.hid hl
  have HB := Lib.hid hb
  clear hl hb
  obtain ⟨p, hp⟩ : ∃ p, p = padF l := ⟨_, rfl⟩
  have HP := Lib.hid hp
  obtain ⟨nb, hnb⟩ : ∃ nb, p.length = 64 * nb := ⟨p.length / 64, by have := padF_mod l; rw [← hp] at this; omega⟩
  have HNB := Lib.hid hnb
  have hnb6 : 64 * nb ≤ 1000100 := by rw [← hnb, hp, padF_length]; have := zerosF_le l.length; have := HL.out; omega
  clear hp hnb
  go_enter Tryd.func32, Tryd.ntmps32
  go_wp2_with (first
    | ((with_reducible show wpList _ _ _ (⟨some 2, _, _, _, _, _⟩ :: _) _ _); go_must (refine alloc_row rfl 35 (bytesV (List.replicate 32 0)) rfl zero_id ?_); intro w1 hr1 hbel1 hsz1; have HS1 := Lib.hid hsz1; clear hsz1)
    | ((with_reducible show wpList _ _ _ (⟨some 23, _, _, _, _, _⟩ :: _) _ _); go_must (refine wpList_ok rfl (v := .agg (wordsV firstH).toArray) (w' := w1) (by unfold execOp; simp only [List.map_toArray, List.map_cons, List.map_nil, Sem.run_bind, Sem.run_pure]; exact congrArg (fun r => Result.andThen r _) (first_build w1)) ?_))
    | ((with_reducible show wpList _ _ _ (⟨some 3, _, _, _, _, _⟩ :: _) _ _); go_must (refine alloc_row rfl 91 (wordsV (zeroW 8)) rfl zero_8w ?_); intro w2 hr2 hbel2 hsz2; have HS2 := Lib.hid hsz2; clear hsz2)
    | ((with_reducible show wpList _ _ _ (⟨none, .store 91 _ _, _, _, _, _⟩ :: _) _ _); go_must (refine store_row rfl 91 (.tmp 3) (.tmp 23) rfl w1.heap.size 91 (wordsV (zeroW 8)) (wordsV firstH) rfl rfl hr2 rfl info_8w (wordsV_one _) ?_); intro w3 hr3 hgr3 hsz3; have HS3 := Lib.hid hsz3; clear hsz3; have hb2 := hbel1.trans (hbel2.mono hbel1.size); have hb3 := hb2.grown hgr3 hb2.size (fun k hk => by simp at hk; have := HS1.out; omega))
    | (go_at_call 55; go_must (refine (padded_any a n c l w3 (HB.out.below hb3) HL.out).mono ?_); rintro e w4 ⟨ap, np, cp, rfl, hown4, hbel4⟩))
  have hz1 := HS1.out
  have hz2 := HS2.out
  have hz3 := HS3.out
  have hl4 := hbel4.size
  have e0 : RowAt w4 w.heap.size 35 (bytesV (List.replicate 32 0)) := ((hr1.below hbel2).grown hgr3 (by simp; omega)).below hbel4
  have e1 : RowAt w4 w1.heap.size 91 (wordsV (stF p 0)) := hr3.below hbel4
  have hbP : Bytes w4 ap np cp p := by have := hown4.isBytes; rw [HP.out]; exact this
  have hbn : NotInSh ap w1.heap.size := own_notIn hown4 (by omega)
  have hbn0 : NotInSh ap w.heap.size := own_notIn hown4 (by omega)
  have hB4 : Below w.heap.size w w4 := hb3.trans (hbel4.mono (by omega))
  have n01 : w.heap.size ≠ w1.heap.size := by omega
  have l01 : w.heap.size ≤ w1.heap.size := by omega
  have hnp : np = 64 * nb := by rw [← HNB.out]; exact hbP.1.symm
  clear hr1 hbel1 hr2 hbel2 hr3 hgr3 hb2 hb3 hown4 hbel4 hz1 hz2 hz3 HS1 HS2 HS3 hl4
  subst hnp
  go_loopg [5] nb (fun gh v5 W => ∃ i : Nat, gh + i = nb ∧ v5 = .int .i64 (64 * (i : Int)) ∧ RowAt W w1.heap.size 91 (wordsV (stF p i)) ∧ RowAt W w.heap.size 35 (bytesV (List.replicate 32 0)) ∧ Bytes W ap (64 * nb) cp p ∧ Below w.heap.size w W)
  case atStart => exact ⟨0, rfl, rfl, e1, e0, hbP, hB4⟩
  case round =>
    obtain ⟨i, hg, rfl, hrs, hr0, hby, hbel⟩ := hrel
    have HGo := Lib.hid hg
    obtain ⟨go, hgo⟩ : ∃ go, go = gk := ⟨_, rfl⟩
    have hinb : i ≤ nb := by omega
    clear hg e1 e0 hbP hB4
    by_cases hi : i < nb
    · have hlt : decide (64 * (i : Int) < 64 * (nb : Int)) = true := by simp; omega
      go_wp2_with ((with_reducible show wpList _ _ _ (⟨some 6, _, _, _, _, _⟩ :: _) _ _); go_must (refine alloc_row_as rfl 98 (wordsV (zeroW 64)) rfl zero_64w ?_); intro w5 gw hgw hr5 hbel5 hsz5; have HGW := Lib.hid hgw; clear hgw hsz5)
      clear hlt
      have hgw := HGW.out
      have lgw : w.heap.size ≤ gw := by rw [hgw]; exact hbel.size
      have ngs : gw ≠ w1.heap.size := by have := hrs.lt; omega
      have ng0 : gw ≠ w.heap.size := by have := hr0.lt; omega
      have nin : NotInSh ap gw := bytes_notIn hby (by omega) (by omega)
      clear hgw
      obtain ⟨blk, hblk⟩ : ∃ blk, blk = blockF p i := ⟨_, rfl⟩
      have HBK := Lib.hid hblk
      obtain ⟨sc, hsc⟩ : ∃ sc, sc = sched blk 48 := ⟨_, rfl⟩
      have HSC := Lib.hid hsc
      clear hblk hsc
      go_loopg [7] 64 (fun gh v7 W => ∃ (t : Nat) (m : List UInt32), gh + t = 64 ∧ v7 = .int .i64 t ∧ m.length = 64 ∧ Hid (m.take t = sc.take t) ∧ RowAt W gw 98 (wordsV m) ∧
        RowAt W w1.heap.size 91 (wordsV (stF p i)) ∧ RowAt W w.heap.size 35 (bytesV (List.replicate 32 0)) ∧ Bytes W ap (64 * nb) cp p ∧ Below w.heap.size w W)
      case atStart => exact ⟨0, zeroW 64, rfl, rfl, by simp [zeroW], rfl, hr5, hrs.below hbel5, hr0.below hbel5, hby.below hbel5, hbel.trans (hbel5.mono hbel.size)⟩
      case round =>
        obtain ⟨t, m, hg, rfl, hm, htk, hrm, hrs, hr0, hby, hbel⟩ := hrel
        have HG := Lib.hid hg
        have HM := Lib.hid hm
        have ht64 : t ≤ 64 := by omega
        clear hg hm hr5 hbel5
        by_cases ht : t < 64
        · by_cases ht16 : t < 16
          · as_aux_lemma =>
            obtain ⟨b, so, rfl⟩ : ∃ b so, ap = some ⟨b, so, none⟩ := by
              rcases hby.2.2.2 with ⟨h1, _⟩ | ⟨b, so, rfl, _⟩
              · omega
              · exact ⟨b, so, rfl⟩
            have hpl := hby.1
            have hc := hby.cells
            have c0 := hc (64 * i + 4 * t) (by omega)
            have c1 := hc (64 * i + 4 * t + 1) (by omega)
            have c2 := hc (64 * i + 4 * t + 2) (by omega)
            have c3 := hc (64 * i + 4 * t + 3) (by omega)
            have hw : sc.getD t 0 = word4 (p.getD (64 * i + 4 * t) 0) (p.getD (64 * i + 4 * t + 1) 0) (p.getD (64 * i + 4 * t + 2) 0) (p.getD (64 * i + 4 * t + 3) 0) := by
              rw [HSC.out, sched_first blk t ht16, HBK.out, block_getD _ _ _ (by omega), block_getD _ _ _ (by omega), block_getD _ _ _ (by omega), block_getD _ _ _ (by omega)]
              rfl
            have HW := Lib.hid hw
            have hml : t < m.length := by have := HM.out; omega
            have cm : wr.cell? ⟨gw, t, none⟩ = some (.int .u32 ((m.getD t 0).toNat : Int)) := hrm.cell t (by simp [wordsV, U, hml])
            have fm := hrm.free t
            clear hpl hc hw hml
            generalize p.getD (64 * i + 4 * t) 0 = x0 at c0 HW
            generalize p.getD (64 * i + 4 * t + 1) 0 = x1 at c1 HW
            generalize p.getD (64 * i + 4 * t + 2) 0 = x2 at c2 HW
            generalize p.getD (64 * i + 4 * t + 3) 0 = x3 at c3 HW
            go_wp2
            go_region
            go_wp2
            go_roundg (gk - 1)
            case measure => have := HG.out; omega
            case rel =>
              have hm := HM.out
              refine ⟨t + 1, m.set t (sc.getD t 0), by have := HG.out; omega, by go_num, by simpa using hm, take_set_one (d := 0) htk.out (by omega) (by rw [HSC.out, sched_length]; omega) rfl, ?_, ?_, ?_, ?_, ?_⟩
              · rw [word_form, HW.out]
                have := (hrm.set t (U (word4 x0 x1 x2 x3))).drew
                unfold wordsV at this ⊢
                rw [List.map_set]
                exact this
              · exact (hrs.other (by simpa using ngs.symm) _).drew
              · exact (hr0.other (by simpa using ng0.symm) _).drew
              · exact bytes_kept hby nin (.int .u32 _)
              · exact (hbel.setCell lgw _).drew
          · as_aux_lemma =>
            have hmm : ∀ k, k < t → m.getD k 0 = sc.getD k 0 := fun k hk => by
              rw [getD_of_take htk.out hk]
              exact (getD_of_take (m := sc) rfl hk).symm
            have hcm : ∀ k, k < 64 → wr.cell? ⟨gw, k, none⟩ = some (.int .u32 ((m.getD k 0).toNat : Int)) := fun k hk => hrm.cell k (by have := HM.out; simp [wordsV, U, this, hk])
            have d2 : wr.cell? ⟨gw, t - 2, none⟩ = some (.int .u32 ((m.getD (t - 2) 0).toNat : Int)) := hcm (t - 2) (by omega)
            have d15 : wr.cell? ⟨gw, t - 15, none⟩ = some (.int .u32 ((m.getD (t - 15) 0).toNat : Int)) := hcm (t - 15) (by omega)
            have d7 : wr.cell? ⟨gw, t - 7, none⟩ = some (.int .u32 ((m.getD (t - 7) 0).toNat : Int)) := hcm (t - 7) (by omega)
            have d16 : wr.cell? ⟨gw, t - 16, none⟩ = some (.int .u32 ((m.getD (t - 16) 0).toNat : Int)) := hcm (t - 16) (by omega)
            have cm : wr.cell? ⟨gw, t, none⟩ = some (.int .u32 ((m.getD t 0).toNat : Int)) := hcm t ht
            have fm := hrm.free t
            have hw : sc.getD t 0 = ((sig1 (m.getD (t - 2) 0) + m.getD (t - 7) 0) + sig0 (m.getD (t - 15) 0)) + m.getD (t - 16) 0 := by
              rw [hmm _ (by omega), hmm _ (by omega), hmm _ (by omega), hmm _ (by omega), HSC.out]
              exact sched_rec blk t (by omega) ht
            have HW := Lib.hid hw
            have hT16 : decide ((t : Int) < 16) = false := by simp; omega
            clear hmm hcm hw
            generalize m.getD (t - 2) 0 = y2 at d2 HW
            generalize m.getD (t - 15) 0 = y15 at d15 HW
            generalize m.getD (t - 7) 0 = y7 at d7 HW
            generalize m.getD (t - 16) 0 = y16 at d16 HW
            generalize m.getD t 0 = y0 at cm
            have ne7 : (⟨gw, t, none⟩ : Addr) ≠ ⟨gw, t - 7, none⟩ := fun h => by simp only [Addr.mk.injEq] at h; omega
            have ne16 : (⟨gw, t, none⟩ : Addr) ≠ ⟨gw, t - 16, none⟩ := fun h => by simp only [Addr.mk.injEq] at h; omega
            go_wp2
            go_region
            go_wp2
            have hw7 : IntKind.i64.wrap ((t : Int) - 7) = (t : Int) - 7 := by rw [IntKind.wrap_i64]; omega
            have hw16 : IntKind.i64.wrap ((t : Int) - 16) = (t : Int) - 16 := by rw [IntKind.wrap_i64]; omega
            have ha7 : (0 : Int) ≤ (t : Int) - 7 := by omega
            have ha16 : (0 : Int) ≤ (t : Int) - 16 := by omega
            have hl7 : (t : Int) - 7 < 64 := by omega
            have hl16 : (t : Int) - 16 < 64 := by omega
            have hv7 : (7 : Int) ≤ t := by omega
            have hv16 : (16 : Int) ≤ t := by omega
            have hn7 : ((t : Int) - 7).toNat = t - 7 := by omega
            have hn16 : ((t : Int) - 16).toNat = t - 16 := by omega
            go_region_held2 (fun W => W.cell? ⟨gw, t - 7, none⟩ = some (.int .u32 (y7.toNat : Int)) ∧ W.cell? ⟨gw, t - 16, none⟩ = some (.int .u32 (y16.toNat : Int))) (first | exact ⟨d7, d16⟩ | exact ⟨(World.cell?_setCell_other _ ⟨gw, t, none⟩ ⟨gw, t - 7, none⟩ _ ne7).trans d7, (World.cell?_setCell_other _ ⟨gw, t, none⟩ ⟨gw, t - 16, none⟩ _ ne16).trans d16⟩)
              (first | (go_at_call 56; refine (rot_lit _ _ _ (by omega) (by omega)).mono ?_; rintro e w7 ⟨rfl, rfl⟩))
            go_wp2
            go_roundg (gk - 1)
            case measure => have := HG.out; omega
            case rel =>
              have hm := HM.out
              refine ⟨t + 1, m.set t (sc.getD t 0), by have := HG.out; omega, by go_num, by simpa using hm, take_set_one (d := 0) htk.out (by omega) (by rw [HSC.out, sched_length]; omega) rfl, ?_, ?_, ?_, ?_, ?_⟩
              · rw [next_form2, ← HW.out]
                have := ((hrm.set t (U (sc.getD t 0))).drew).drew
                unfold wordsV at this ⊢
                rw [List.map_set]
                exact this
              · exact (hrs.other (by simpa using ngs.symm) _)
              · exact (hr0.other (by simpa using ng0.symm) _)
              · exact bytes_kept hby nin (.int .u32 _)
              · exact (hbel.drew.drew.setCell lgw _)
        · obtain rfl : t = 64 := by omega
          have hms : m = sc := by
            have h := htk.out
            rwa [List.take_of_length_le (by have := HM.out; omega), List.take_of_length_le (by rw [HSC.out, sched_length]; omega)] at h
          rw [hms] at hrm
          obtain ⟨x0, x1, x2, x3, x4, x5, x6, x7, hx⟩ : ∃ x0 x1 x2 x3 x4 x5 x6 x7, stF p i = [x0, x1, x2, x3, x4, x5, x6, x7] := by
            have := stF_length p i
            match stF p i, this with
            | [x0, x1, x2, x3, x4, x5, x6, x7], _ => exact ⟨_, _, _, _, _, _, _, _, rfl⟩
          rw [hx] at hrs
          have HX := Lib.hid hx
          have HSL := Lib.hid (show sc.length = 64 by rw [HSC.out, sched_length])
          clear hms htk hx ht
          have k0 : wr.cell? ⟨w1.heap.size, 0, none⟩ = some (.int .u32 (x0.toNat : Int)) := hrs.cell 0 rfl
          have k1 : wr.cell? ⟨w1.heap.size, 1, none⟩ = some (.int .u32 (x1.toNat : Int)) := hrs.cell 1 rfl
          have k2 : wr.cell? ⟨w1.heap.size, 2, none⟩ = some (.int .u32 (x2.toNat : Int)) := hrs.cell 2 rfl
          have k3 : wr.cell? ⟨w1.heap.size, 3, none⟩ = some (.int .u32 (x3.toNat : Int)) := hrs.cell 3 rfl
          have k4 : wr.cell? ⟨w1.heap.size, 4, none⟩ = some (.int .u32 (x4.toNat : Int)) := hrs.cell 4 rfl
          have k5 : wr.cell? ⟨w1.heap.size, 5, none⟩ = some (.int .u32 (x5.toNat : Int)) := hrs.cell 5 rfl
          have k6 : wr.cell? ⟨w1.heap.size, 6, none⟩ = some (.int .u32 (x6.toNat : Int)) := hrs.cell 6 rfl
          have k7 : wr.cell? ⟨w1.heap.size, 7, none⟩ = some (.int .u32 (x7.toNat : Int)) := hrs.cell 7 rfl
          go_wp2
          go_quiet (fail)
          go_wp2
          clear k0 k1 k2 k3 k4 k5 k6 k7
          go_loopg [10, 11, 12, 13, 14, 15, 16, 17, 18] 64 (fun gh v10 v11 v12 v13 v14 v15 v16 v17 v18 W => ∃ (t : Nat) (a b' c d e f g h : UInt32), gh + t = 64 ∧ Hid (runF sc t (regOf [x0, x1, x2, x3, x4, x5, x6, x7]) = ⟨a, b', c, d, e, f, g, h⟩) ∧ v18 = .int .i64 t ∧
            v10 = .int .u32 (a.toNat : Int) ∧ v11 = .int .u32 (b'.toNat : Int) ∧ v12 = .int .u32 (c.toNat : Int) ∧ v13 = .int .u32 (d.toNat : Int) ∧ v14 = .int .u32 (e.toNat : Int) ∧ v15 = .int .u32 (f.toNat : Int) ∧ v16 = .int .u32 (g.toNat : Int) ∧ v17 = .int .u32 (h.toNat : Int) ∧
            RowAt W gw 98 (wordsV sc) ∧ RowAt W w1.heap.size 91 (wordsV [x0, x1, x2, x3, x4, x5, x6, x7]) ∧ RowAt W w.heap.size 35 (bytesV (List.replicate 32 0)) ∧ Bytes W ap (64 * nb) cp p ∧ Below w.heap.size w W)
          case atStart => exact ⟨0, x0, x1, x2, x3, x4, x5, x6, x7, rfl, rfl, rfl, rfl, rfl, rfl, rfl, rfl, rfl, rfl, rfl, hrm, hrs, hr0, hby, ⟨hbel.os, hbel.tape, hbel.output, hbel.size, hbel.block⟩⟩
          case round =>
            obtain ⟨t, va, vb, vc, vd, ve, vf, vg, vh, hg, hrun, rfl, rfl, rfl, rfl, rfl, rfl, rfl, rfl, rfl, hrm, hrs, hr0, hby, hbel⟩ := hrel
            have HG2 := Lib.hid hg
            have ht64 : t ≤ 64 := by omega
            clear hg
            by_cases htl : t < 64
            · as_aux_lemma =>
              obtain ⟨kt, hkt⟩ : ∃ kt, kt = roundK.getD t 0 := ⟨_, rfl⟩
              obtain ⟨wt, hwt⟩ : ∃ wt, wt = sc.getD t 0 := ⟨_, rfl⟩
              have HN := Lib.hid (show runF sc (t + 1) (regOf [x0, x1, x2, x3, x4, x5, x6, x7]) = stepF kt wt ⟨va, vb, vc, vd, ve, vf, vg, vh⟩ by rw [runF, hrun.out, ← hkt, ← hwt])
              have hcw : wr.cell? ⟨gw, t, none⟩ = some (.int .u32 (wt.toNat : Int)) := by rw [hwt]; exact hrm.cell t (cell_words _ t (by rw [HSL.out]; exact htl))
              have hcwd : wr.drew.cell? ⟨gw, t, none⟩ = some (.int .u32 (wt.toNat : Int)) := hcw
              have hkey := fun W => key_any t htl W
              rw [← hkt] at hkey
              have HKEY := Lib.hid hkey
              have hsg : IntKind.u32.signed = false := rfl
              clear hkt hwt hkey hrun
              go_wp2
              go_region_held2 (fun W => W.cell? ⟨gw, t, none⟩ = some (.int .u32 (wt.toNat : Int))) (first | exact hcw | exact hcw7)
                (first
                  | (go_at_call 56; refine (rot_lit _ _ _ (by omega) (by omega)).mono ?_; rintro e w7 ⟨rfl, rfl⟩)
                  | (go_at_call 57; refine (HKEY.out _).mono ?_; rintro e w7 ⟨rfl, hbk⟩; have hcw7 : w7.cell? ⟨gw, t, none⟩ = some (.int .u32 (wt.toNat : Int)) := (hbk.cell (World.block_lt_of_cell? _ _ hcwd)).trans hcwd))
              go_wp2_with (go_at_call 56; go_must (refine (rot_lit _ _ _ (by omega) (by omega)).mono ?_); rintro e w8 ⟨rfl, rfl⟩)
              go_roundg (gk - 1)
              case measure => have := HG2.out; omega
              case rel =>
                refine ⟨t + 1, _, va, vb, vc, _, ve, vf, vg, by have := HG2.out; omega, HN.out, by go_num, ?_, rfl, rfl, rfl, ?_, rfl, rfl, rfl, hrm.drew.below hbk, hrs.drew.below hbk, hr0.drew.below hbk, (bytes_drew hby).below hbk, (drewB' hbel).trans (hbk.mono hbel.size)⟩
                · exact congrArg (Value.int .u32) (rstepA_form va vb vc vd ve vf vg vh kt wt)
                · exact congrArg (Value.int .u32) (rstepE_form va vb vc vd ve vf vg vh kt wt)
            · obtain rfl : t = 64 := by omega
              have HF := Lib.hid (turn_finSh x0 x1 x2 x3 x4 x5 x6 x7 va vb vc vd ve vf vg vh blk (by rw [← HSC.out]; exact hrun.out))
              clear hrun htl
              have k0 : wr.cell? ⟨w1.heap.size, 0, none⟩ = some (.int .u32 (x0.toNat : Int)) := hrs.cell 0 rfl
              have z0 := hrs.free 0
              have k1 : wr.cell? ⟨w1.heap.size, 1, none⟩ = some (.int .u32 (x1.toNat : Int)) := hrs.cell 1 rfl
              have z1 := hrs.free 1
              have k2 : wr.cell? ⟨w1.heap.size, 2, none⟩ = some (.int .u32 (x2.toNat : Int)) := hrs.cell 2 rfl
              have z2 := hrs.free 2
              have k3 : wr.cell? ⟨w1.heap.size, 3, none⟩ = some (.int .u32 (x3.toNat : Int)) := hrs.cell 3 rfl
              have z3 := hrs.free 3
              have k4 : wr.cell? ⟨w1.heap.size, 4, none⟩ = some (.int .u32 (x4.toNat : Int)) := hrs.cell 4 rfl
              have z4 := hrs.free 4
              have k5 : wr.cell? ⟨w1.heap.size, 5, none⟩ = some (.int .u32 (x5.toNat : Int)) := hrs.cell 5 rfl
              have z5 := hrs.free 5
              have k6 : wr.cell? ⟨w1.heap.size, 6, none⟩ = some (.int .u32 (x6.toNat : Int)) := hrs.cell 6 rfl
              have z6 := hrs.free 6
              have k7 : wr.cell? ⟨w1.heap.size, 7, none⟩ = some (.int .u32 (x7.toNat : Int)) := hrs.cell 7 rfl
              have z7 := hrs.free 7
              go_wp2
              go_roundg (go - 1)
              case measure => have := HGo.out; omega
              case rel =>
                obtain ⟨hr8, hg8⟩ := set8v x0 x1 x2 x3 x4 x5 x6 x7 (.int .u32 (((x0.toNat : Int) + va.toNat) % 4294967296)) (.int .u32 (((x1.toNat : Int) + vb.toNat) % 4294967296)) (.int .u32 (((x2.toNat : Int) + vc.toNat) % 4294967296)) (.int .u32 (((x3.toNat : Int) + vd.toNat) % 4294967296))
                  (.int .u32 (((x4.toNat : Int) + ve.toNat) % 4294967296)) (.int .u32 (((x5.toNat : Int) + vf.toNat) % 4294967296)) (.int .u32 (((x6.toNat : Int) + vg.toNat) % 4294967296)) (.int .u32 (((x7.toNat : Int) + vh.toNat) % 4294967296)) w1.heap.size 91 wr hrs
                rw [← HF.out, HBK.out, ← HX.out, ← stF_next] at hr8
                refine ⟨i + 1, by have := HGo.out; omega, ?_, hr8, hr0.grown hg8 (by simpa using n01), hby.grown hg8 hbn, hbel.grown hg8 hbel.size (fun k hk => by simp at hk; omega)⟩
                show Value.int .i64 _ = Value.int .i64 _
                congr 1
    · obtain rfl : i = nb := by omega
      obtain ⟨xs, hxs⟩ : ∃ xs, xs = stF p i := ⟨_, rfl⟩
      rw [← hxs] at hrs
      have hx8 := Lib.hid (show xs.length = 8 by rw [hxs, stF_length])
      have HSUM := Lib.hid (show idOf xs = sumF l by unfold sumF; rw [hxs, ← HP.out, HNB.out, Nat.mul_div_cancel_left i (by omega)])
      clear hi hxs hby hbn hbn0
      go_wp2_with ((with_reducible show wpList _ _ _ (⟨some 21, _, _, _, _, _⟩ :: _) _ _); go_must (refine alloc_row_as rfl 35 (bytesV (List.replicate 32 0)) rfl zero_id ?_); intro w7 gi hgi hr7 hbel7 hsz7; have HGI := Lib.hid hgi; clear hgi hsz7)
      have hgi := HGI.out
      have lgi : w.heap.size ≤ gi := by rw [hgi]; exact hbel.size
      have ngs : w1.heap.size ≠ gi := by have := hrs.lt; omega
      have ng0 : w.heap.size ≠ gi := by have := hr0.lt; omega
      have e7 := hrs.below hbel7
      have f7 := hr0.below hbel7
      have b7 := hbel.trans (hbel7.mono hbel.size)
      clear hgi hrs hr0 hbel hbel7
      go_loopg [22] 8 (fun gh v22 W => ∃ k : Nat, gh + k = 8 ∧ v22 = .int .i64 k ∧ RowAt W gi 35 (bytesV (outF xs k)) ∧ RowAt W w1.heap.size 91 (wordsV xs) ∧ RowAt W w.heap.size 35 (bytesV (List.replicate 32 0)) ∧ Below w.heap.size w W)
      case atStart => exact ⟨0, rfl, rfl, hr7, e7, f7, b7⟩
      case round =>
        obtain ⟨k, hg, rfl, hri, hrs, hr0, hbel⟩ := hrel
        have HG := Lib.hid hg
        have hk8 : k ≤ 8 := by omega
        clear hg hr7 e7 f7 b7
        by_cases hk : k < 8
        · obtain ⟨x, hx⟩ : ∃ x, x = xs.getD k 0 := ⟨_, rfl⟩
          have c0 : wr.cell? ⟨w1.heap.size, k, none⟩ = some (.int .u32 (x.toNat : Int)) := by rw [hx]; exact hrs.cell k (cell_words _ k (by rw [hx8.out]; exact hk))
          have d : ∀ j, j < 32 → wr.cell? ⟨gi, j, none⟩ = some (B ((outF xs k).getD j 0)) := fun j hj => hri.cell j (by
            have := outF_length xs hx8.out k hk8
            unfold bytesV
            rw [List.getElem?_map, List.getElem?_eq_getElem (by omega)]
            simp [List.getD, show j < (outF xs k).length by omega])
          have d0 := d (4 * k) (by omega)
          have d1 := d (4 * k + 1) (by omega)
          have d2 := d (4 * k + 2) (by omega)
          have d3 := d (4 * k + 3) (by omega)
          have z0 := hri.free (4 * k)
          have z1 := hri.free (4 * k + 1)
          have z2 := hri.free (4 * k + 2)
          have z3 := hri.free (4 * k + 3)
          have HN := Lib.hid (show _ by have h := out_next xs hx8.out k hk; rw [← hx] at h; exact h)
          clear d hx
          go_wp2
          go_roundg (gk - 1)
          case measure => have := HG.out; omega
          case rel =>
            refine ⟨k + 1, by have := HG.out; omega, by go_num, ?_, hrs.other4 ngs _ _ _ _ _ _ _ _, hr0.other4 ng0 _ _ _ _ _ _ _ _, below_set4 hbel lgi _ _ _ _ _ _ _ _⟩
            rw [← HN.out]
            exact hri.set4 _ _ _ _ _ _ _ _
        · obtain rfl : k = 8 := by omega
          have hl8 := outF_length xs hx8.out 8 hk8
          rw [out_last xs hx8.out, HSUM.out] at hri
          clear hk hl8
          go_wp2_with (first
            | ((with_reducible show wpList _ _ _ (⟨some 274, _, _, _, _, _⟩ :: _) _ _); go_must (refine load_row rfl 35 (.tmp 21) rfl gi 35 (bytesV (sumF l)) _ rfl hri Tryd.underlying35 rfl (by rw [bytesV_length, sumF_length]; exact info_id) ?_))
            | ((with_reducible show wpList _ _ _ (⟨none, .store 35 _ _, _, _, _, _⟩ :: _) _ _); go_must (refine store_row rfl 35 (.tmp 2) (.tmp 274) rfl w.heap.size 35 (bytesV (List.replicate 32 0)) (bytesV (sumF l)) rfl rfl hr0 (by rw [bytesV_length, bytesV_length, sumF_length]; rfl) (by rw [bytesV_length, sumF_length]; exact info_id) (bytesV_one _) ?_); intro w9 hr9 hgr9 hsz9))
          have hfin := hbel.grown hgr9 hbel.size (fun k hk => by simp at hk; omega)
          exact bodyPost_ret (results_row rfl _ _ w.heap.size 35 _ _ rfl hr9 Tryd.underlying35 rfl (by rw [bytesV_length, sumF_length]; exact info_id)) rfl ⟨rfl, hfin⟩
#print axioms rsum_any
end Go.Proofs.YtcnhifkpflaibaaDoor
