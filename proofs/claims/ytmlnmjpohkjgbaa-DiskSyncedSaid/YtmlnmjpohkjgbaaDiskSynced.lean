/-
  The walk of DiskSynced: what was synced is there behind whatever crash.
-/
import Derived.Test.YtmlnmjpohkjgbaaKeptMem
import Derived.Test.YtmlnmjpohkjgbaaDiskDone
namespace Go.Proofs.Ytmlnmjpohkjgbaa
open Go.RowKit Go.Maps

theorem box_kept (w : World) (aA : Option Addr) (nA cA : Nat) (aB : Option Addr) (nB cB : Nat) (s : ByteArray) (aX : Option Addr) (nX cX : Nat) (aF : Option Addr) (nF cF : Nat) (ty : TypeId) (W : World)
    (hb : Below (w.alloc (.cells (keptC aA nA cA aB nB cB s aX nX cX aF nF cF) ty)).heap.size (w.alloc (.cells (keptC aA nA cA aB nB cB s aX nX cX aF nF cF) ty)) W) :
    W.cell? ⟨w.heap.size, 0, none⟩ = some (.slice aA nA cA) ∧ W.cell? ⟨w.heap.size, 1, none⟩ = some (.slice aB nB cB) ∧ W.cell? ⟨w.heap.size, 2, none⟩ = some (.string s) ∧ W.cell? ⟨w.heap.size, 3, none⟩ = some (.slice aX nX cX) ∧ W.cell? ⟨w.heap.size, 4, none⟩ = some (.slice aF nF cF) := by
  refine ⟨?_, ?_, ?_, ?_, ?_⟩ <;> (rw [hb.cell (by simp), World.cell?_alloc_new]; rfl)

abbrev besB : ByteArray := ⟨#[98, 101, 115, 105, 100, 101]⟩
def besN : Nm := [98, 101, 115, 105, 100, 101]
theorem strB_appS (l m : List UInt8) : strB l ++ strB m = strB (l ++ m) := by
  apply ByteArray.ext
  simp [strB]
theorem run_cat (l m : List UInt8) (h : l.length + m.length ≤ 9223372036854775807) (W : World) : (Op.stringOp .add (strB l) (strB m)).run Try.prog W = .ok (.string (strB (l ++ m))) W := by
  have hm : ¬ (((strB l).size + (strB m).size : Nat) : Int) > IntKind.i64.max := by
    rw [strB_size, strB_size]
    simp only [IntKind.max, IntKind.signed, IntKind.bits]
    simp; omega
  unfold Op.stringOp
  simp only [hm, if_false, Sem.run_pure]
  congr 2
theorem Calm.mono {S : DS} {q t t2 : Nat} (h : Calm S q t) (ht : t ≤ t2) : Calm S q t2 := ⟨h.inv, h.up, h.arm, h.quota, Nat.le_trans h.tot ht⟩
theorem down_yes {w W : World} {F : Nat → Prop} {db : Nat} {S : DS} (R : Run w W F db S) (hu : S.down = true) : Calls Try.prog 16 #[Pt db] W fun e W' => e = .returned (.bool true) ∧ W = W' := by
  have := down_any R.1
  rw [hu] at this
  exact this

set_option maxRecDepth 100000 in
set_option maxHeartbeats 4000000 in
theorem diskSynced_any (aA : Option Addr) (nA cA : Nat) (LA : List ActV) (aB : Option Addr) (nB cB : Nat) (LB : List RowV) (s : ByteArray) (aX : Option Addr) (nX cX : Nat) (lX : List UInt8) (aF : Option Addr) (nF cF : Nat) (lF : List Int) (w w0 : World)
    (hw0 : w0 = w.alloc (.cells (keptC aA nA cA aB nB cB s aX nX cX aF nF cF) 47)) (hA : ActsAt w0 aA nA cA LA) (hB : BehAt w0 aB nB cB LB) (hX : Bytes w0 aX nX cX lX) (hF : At1 I w0 aF nF cF lF) (hz : ∀ z ∈ lF, -9223372036854775808 ≤ z ∧ z ≤ 9223372036854775807) :
    Calls Try.prog 4 #[.agg (keptC aA nA cA aB nB cB s aX nX cX aF nF cF)] w fun e w' => e = .returned (.bool true) ∧ Below w.heap.size w w' := by
  have HB0 := Lib.hid (show Below w.heap.size w w0 from hw0 ▸ (Below.refl w.heap.size w).alloc (Nat.le_refl _) _)
  have KC := Lib.hid (fun W (hb : Below w0.heap.size w0 W) => box_kept w aA nA cA aB nB cB s aX nX cX aF nF cF 47 W (hw0 ▸ hb))
  obtain ⟨k0, k1, k2, k3, k4⟩ := KC.out w0 (Below.refl _ _)
  have HA := Lib.hid hA
  have HB := Lib.hid hB
  have HX := Lib.hid hX
  have HF := Lib.hid hF
  have HZ := Lib.hid hz
  have hnA := hA.le
  have hcA := hA.most
  have hnB := hB.le
  have hcB := hB.most
  have hnX := hX.2.1
  have hcX := hX.2.2.1
  have hnF := hF.2.1
  have hcF := hF.2.2.1
  have hAl := hw0.symm
  by_cases hQ : ¬ Light nA 40 LA
  · have P := Lib.hid (light_no 40 40 rfl (by omega) hA hQ)
    clear hA hB hX hF hz hQ hw0
    go_enter Try.func4, Try.ntmps4
    go_wp2_with (first | (go_at_call 7; (with_reducible refine P.out.mono ?_); rintro e w1 ⟨rfl, rfl⟩))
    go_ret
    exact ⟨rfl, HB0.out⟩
  have hQ := Classical.not_not.1 hQ
  have P := Lib.hid (light_yes 40 40 rfl (by omega) hA hQ)
  have HQ := Lib.hid hQ
  have hn40 : nA ≤ 40 := hQ.1
  by_cases g1 : (300 : Int) < (nX : Int)
  · clear hA hB hX hF hz hQ hw0
    go_enter Try.func4, Try.ntmps4
    go_wp2_with (first | (go_at_call 7; (with_reducible refine P.out.mono ?_); rintro e w1 ⟨rfl, rfl⟩))
    go_ret
    exact ⟨rfl, HB0.out⟩
  by_cases g2 : (20 : Int) < (nB : Int)
  · clear hA hB hX hF hz hQ hw0
    go_enter Try.func4, Try.ntmps4
    go_wp2_with (first | (go_at_call 7; (with_reducible refine P.out.mono ?_); rintro e w1 ⟨rfl, rfl⟩))
    go_ret
    exact ⟨rfl, HB0.out⟩
  by_cases g3 : (100 : Int) < (nF : Int)
  · clear hA hB hX hF hz hQ hw0
    go_enter Try.func4, Try.ntmps4
    go_wp2_with (first | (go_at_call 7; (with_reducible refine P.out.mono ?_); rintro e w1 ⟨rfl, rfl⟩))
    go_ret
    exact ⟨rfl, HB0.out⟩
  have HLX := Lib.hid (show lX.length ≤ 300 by have := hX.1; omega)
  have N1 := Lib.hid (aw_new (Below.refl w0.heap.size w0) 1048576 1048576 rfl (by omega))
  clear hA hB hX hF hz hQ hw0
  go_enter Try.func4, Try.ntmps4
  go_wp2_with (first
    | (go_at_call 7; (with_reducible refine P.out.mono ?_); rintro e w1 ⟨rfl, rfl⟩)
    | (go_at_call 8; (with_reducible refine N1.out.mono ?_); rintro e W1 ⟨db, rfl, F, hr⟩; have R1 := Lib.hid hr; clear hr))
  clear k0 k1 k2 k3 k4 hAl
  go_loopg [4] nA (fun g v4 W => ∃ i : Nat, ∃ S F, Run w0 W F db S ∧ Few S i ∧ total S.files ≤ 300 * i ∧ S.quota = 1048576 ∧ v4 = .int .i64 i ∧ g + i = nA)
  case atStart => exact ⟨0, _, _, R1.out, few_new _, Nat.le_refl _, rfl, rfl, rfl⟩
  case round =>
    obtain ⟨i, S, F3, hR, hF, hT, hQt, rfl, hg⟩ := hrel
    have HG := Lib.hid hg
    have HR := Lib.hid hR
    have HF3 := Lib.hid hF
    have hi0 : (0 : Int) ≤ (i : Int) := by omega
    have hiI : (i : Int) ≤ (nA : Int) := by omega
    obtain ⟨m0, m1, m2, m3, m4⟩ := KC.out wr hR.2.2
    by_cases hi : (i : Int) < (nA : Int)
    · have hin : i < nA := by omega
      obtain ⟨b, o, rfl⟩ := HA.out.some_ (by omega)
      have hX := HA.out.below hR.2.2
      have k0 := hX.cell i hin (i := 0) (v := .int .i64 (LA.getD i default).z) rfl
      have k1 := hX.cell i hin (i := 1) (v := .string (LA.getD i default).s) rfl
      have k2 := hX.cell i hin (i := 2) (v := .string (LA.getD i default).t) rfl
      have k3 := hX.cell i hin (i := 3) (v := .slice (LA.getD i default).a (LA.getD i default).m (LA.getD i default).c) rfl
      have k4 := hX.cell i hin (i := 4) (v := .int .i64 (LA.getD i default).n) rfl
      have k5 := hX.cell i hin (i := 5) (v := .slice (LA.getD i default).a5 (LA.getD i default).m5 (LA.getD i default).c5) rfl
      rw [Nat.add_zero] at k0
      have D := Lib.hid (do_any (LA.getD i default) hR (HA.out.each i hin) hF (by omega))
      have HD := Lib.hid (few_do hR.1.1 hF (LA.getD i default))
      have HT := Lib.hid (show total (doS S (LA.getD i default)).files ≤ 300 * (i + 1) by have h1 := total_do hR.1.1 (LA.getD i default); have h2 := (HQ.out.2 i hin).1; omega)
      have HQt := Lib.hid (show (doS S (LA.getD i default)).quota = 1048576 by rw [quota_do]; exact hQt)
      clear hT hQt hX
      generalize (LA.getD i default) = x at k0 k1 k2 k3 k4 k5 D HD HT HQt
      clear hR hF hg m1 m2 m3 m4
      go_wp2_with (go_at_call 19; (with_reducible refine D.out.mono ?_); rintro e w5 ⟨rfl, F5, hr5⟩)
      go_roundg (gk - 1)
      case measure => have := HG.out; omega
      case rel => exact ⟨i + 1, _, _, hr5, HD.out, HT.out, HQt.out, by go_num, by have := HG.out; omega⟩
    · have hk : S.kept.length + S.acts.length ≤ 1000000 := by have := hF.dirs; omega
      have hC : Calm (upS S) 1048576 12000 := calm_up hR.1.1 hQt (by omega)
      have hFu : Few (upS S) i := few_up hF
      have hFu' : Few (upS S) 41 := hFu.mono (by omega)
      clear hT hQt hg hFu
      have HC := Lib.hid hC
      have HFu := Lib.hid hFu'
      clear hC hFu'
      cases hd : S.down
      · have hU : setArm S 0 = upS S := by unfold upS; rw [hd]; rfl
        have DN := Lib.hid (down_run HR.out hd)
        have AR := Lib.hid (fun W F (R : Run w0 W F db S) => (by have h := arm_run (n := 0) R (by omega); rw [hU] at h; exact h : Calls Try.prog 21 #[Pt db, .int .i64 0] W (RunEnd w0 db (upS S) (.tuple #[]))))
        clear hd hU hR hF hk
        cases hm : mayN s.data.toList
        · have hm8 : (80 : Int) < (s.size : Int) ∨ (s.size : Int) < 1 := by
            unfold mayN at hm
            have e : s.data.toList.length = s.size := by simp
            rw [e] at hm
            by_cases h1 : 1 ≤ s.size
            · by_cases h2 : s.size ≤ 80
              · simp [h1, h2] at hm
              · left; omega
            · right; omega
          have AP := Lib.hid (fun W F (R : Run w0 W F db (upS S)) => app_in R HX.out HFu.out (by omega) s (append_ten HC.out.up hm lX))
          by_cases h1 : (s.size : Int) < 1
          · clear hm8
            go_wp2_with (first
            | (go_at_call 16; (with_reducible refine DN.out.mono ?_); rintro e W6 ⟨rfl, rfl⟩)
              | (go_at_call 21; (with_reducible refine (AR.out _ _ HR.out).mono ?_); rintro e W4 ⟨rfl, F4, hr⟩; have R4 := Lib.hid hr; obtain ⟨m0, m1, m2, m3, m4⟩ := KC.out W4 hr.2.2; clear hr)
              | (go_at_call 22; (with_reducible refine (AP.out _ _ R4.out).mono ?_); rintro e W5 ⟨rfl, F5, hr⟩; have R5 := Lib.hid hr; clear m0 m1 m2 m3 m4; obtain ⟨m0, m1, m2, m3, m4⟩ := KC.out W5 hr.2.2; clear hr))
            go_ret
            exact ⟨rfl, HB0.out.trans (R5.out.2.2.mono HB0.out.size)⟩
          · have h8 : (80 : Int) < (s.size : Int) := by omega
            clear hm8
            go_wp2_with (first
            | (go_at_call 16; (with_reducible refine DN.out.mono ?_); rintro e W6 ⟨rfl, rfl⟩)
              | (go_at_call 21; (with_reducible refine (AR.out _ _ HR.out).mono ?_); rintro e W4 ⟨rfl, F4, hr⟩; have R4 := Lib.hid hr; obtain ⟨m0, m1, m2, m3, m4⟩ := KC.out W4 hr.2.2; clear hr)
              | (go_at_call 22; (with_reducible refine (AP.out _ _ R4.out).mono ?_); rintro e W5 ⟨rfl, F5, hr⟩; have R5 := Lib.hid hr; clear m0 m1 m2 m3 m4; obtain ⟨m0, m1, m2, m3, m4⟩ := KC.out W5 hr.2.2; clear hr))
            go_ret
            exact ⟨rfl, HB0.out.trans (R5.out.2.2.mono HB0.out.size)⟩
        · obtain ⟨z1, z2, was, hH, hC2, hrd⟩ := ahead_step HC.out hm lX (by have := HLX.out; omega)
          have f3 : Few (appendS (upS S) s.data.toList lX).1 42 := few_append HFu.out _ _
          have f4 := few_sync (inv_append HC.out.inv _ _) f3 s.data.toList
          obtain ⟨S3, hS3⟩ : ∃ S3, S3 = (appendS (upS S) s.data.toList lX).1 := ⟨_, rfl⟩
          have e3 : appendS (upS S) s.data.toList lX = (S3, 0) := Prod.ext hS3.symm z1
          rw [← hS3] at z2 hH hC2 hrd f3 f4
          obtain ⟨S4, hS4⟩ : ∃ S4, S4 = (syncS S3 s.data.toList).1 := ⟨_, rfl⟩
          have e4 : syncS S3 s.data.toList = (S4, 0) := Prod.ext hS4.symm z2
          rw [← hS4] at hH hC2 hrd f4
          have AP := Lib.hid (fun W F (R : Run w0 W F db (upS S)) => app_in R HX.out HFu.out (by omega) s e3)
          have SY := Lib.hid (fun W F (R : Run w0 W F db S3) => sync_in R f3 (by omega) s e4)
          have RD := Lib.hid (fun W F (R : Run w0 W F db S4) => aw_read R s hrd)
          have HH := Lib.hid hH
          have HC2 := Lib.hid (hC2.mono (t2 := 12300) (by have := HLX.out; omega))
          have F42 := Lib.hid f4
          have HWL := Lib.hid (held_len HC2.out hH)
          have HM := Lib.hid hm
          clear z1 z2 hH hC2 hrd f3 f4 hS3 e3 hS4 e4 hm
          go_wp2_with (first
            | (go_at_call 16; (with_reducible refine DN.out.mono ?_); rintro e W6 ⟨rfl, rfl⟩)
            | (go_at_call 21; (with_reducible refine (AR.out _ _ HR.out).mono ?_); rintro e W4 ⟨rfl, F4, hr⟩; have R4 := Lib.hid hr; obtain ⟨m0, m1, m2, m3, m4⟩ := KC.out W4 hr.2.2; clear hr)
            | (go_at_call 22; (with_reducible refine (AP.out _ _ R4.out).mono ?_); rintro e W5 ⟨rfl, F5, hr⟩; have R5 := Lib.hid hr; clear m0 m1 m2 m3 m4; obtain ⟨m0, m1, m2, m3, m4⟩ := KC.out W5 hr.2.2; clear hr)
            | (go_at_call 23; (with_reducible refine (SY.out _ _ R5.out).mono ?_); rintro e W6 ⟨rfl, F6, hr⟩; have R6 := Lib.hid hr; clear m0 m1 m2 m3 m4; obtain ⟨m0, m1, m2, m3, m4⟩ := KC.out W6 hr.2.2; clear hr)
            | (go_at_call 24; (with_reducible refine (RD.out _ _ R6.out).mono ?_); rintro e W7 ⟨ar, nr, cr, F7, rfl, hbt, hr, hn7⟩; have R7 := Lib.hid hr; have BY := Lib.hid hbt; have hs := run_str hbt 9 Try.underlying9; clear m0 m1 m2 m3 m4; obtain ⟨m0, m1, m2, m3, m4⟩ := KC.out W7 hr.2.2; clear hr hbt hn7))
          clear AP SY RD AR DN
          have H72 := Lib.hid (show Few _ (42 + 2 * 0) from F42.out)
          have HT2 := Lib.hid (HC2.out.mono (t2 := 12300 + 600 * 0) (by omega))
          go_loopg [7, 8] nB (fun g v7 v8 W => ∃ i : Nat, ∃ S F all, Run w0 W F db S ∧ Few S (42 + 2 * i) ∧ Calm S 1048576 (12300 + 600 * i) ∧ HeldS S s.data.toList was all ∧ v7 = .string (strB all) ∧ v8 = .int .i64 i ∧ g + i = nB)
          case atStart => exact ⟨0, _, _, was, R7.out, H72.out, HT2.out, HH.out, rfl, rfl, rfl⟩
          case round =>
            obtain ⟨i2, S8, F8, all, hR, hF, hC, hH, rfl, rfl, hg⟩ := hrel
            have HG2 := Lib.hid hg
            have HR8 := Lib.hid hR
            have HF8 := Lib.hid hF
            have HC8 := Lib.hid hC
            have HH8 := Lib.hid hH
            have hj0 : (0 : Int) ≤ (i2 : Int) := by omega
            have hjI : (i2 : Int) ≤ (nB : Int) := by omega
            clear m0 m1 m2 m3 m4
            obtain ⟨m0, m1, m2, m3, m4⟩ := KC.out wr hR.2.2
            by_cases hj : (i2 : Int) < (nB : Int)
            · have hin : i2 < nB := by omega
              obtain ⟨b, o, rfl⟩ := HB.out.some_ (by omega)
              have mB := (HB.out.below hR.2.2).cell i2 hin
              have hY := HB.out.each i2 hin
              obtain ⟨x, hYE⟩ : ∃ x, LB.getD i2 default = x := ⟨_, rfl⟩
              rw [hYE] at mB hY
              obtain ⟨xa, xn, xc, xl⟩ := x
              simp only at mB hY
              have HY := Lib.hid hY
              have HYL := Lib.hid hY.1
              clear hg hR hF hC hH hY
              by_cases hl : (300 : Int) < (xn : Int)
              · go_wp2
                go_ret
                exact ⟨rfl, HB0.out.trans (HR8.out.2.2.mono HB0.out.size)⟩
              · have hxn : xl.length ≤ 300 := by have := HYL.out; omega
                have HXN := Lib.hid hxn
                obtain ⟨S9, hS9⟩ : ∃ S9, S9 = (appendS S8 s.data.toList xl).1 := ⟨_, rfl⟩
                obtain ⟨S10, hS10⟩ : ∃ S10, S10 = (appendS S9 besN xl).1 := ⟨_, rfl⟩
                have B2 := Lib.hid (behind_step (u := besN) HC8.out HH8.out HM.out (by decide) xl (by omega))
                rw [← hS9, ← hS10] at B2
                have F9' : Few S9 (42 + 2 * i2 + 1) := hS9 ▸ few_append HF8.out _ _
                have HF10 := Lib.hid (hS10 ▸ few_append F9' besN xl : Few S10 (42 + 2 * i2 + 1 + 1))
                have A8 := Lib.hid (fun W F (R : Run w0 W F db S8) => app_in R HY.out HF8.out (by omega) s (S2 := S9) (z := (appendS S8 s.data.toList xl).2) (Prod.ext hS9.symm rfl))
                have A9 := Lib.hid (fun W F (R : Run w0 W F db S9) => app_in R HY.out F9' (by omega) besB (S2 := S10) (z := (appendS S9 besN xl).2) (Prod.ext hS10.symm rfl))
                have HAL := Lib.hid (held_len HC8.out HH8.out)
                have cat1 := fun W => run_cat all xl (by have := HAL.out; have := HXN.out; omega) W
                have cat2 := fun W => run_cat (all ++ xl) xl (by have := HAL.out; have := HXN.out; rw [List.length_append]; omega) W
                have HIN := Lib.hid hin
                clear hS9 hS10 F9' hin
                generalize (appendS S8 s.data.toList xl).2 = z9 at A8
                generalize (appendS S9 besN xl).2 = z10 at A9
                by_cases hbe : s = besB
                · have hbq : (s.toList == [98, 101, 115, 105, 100, 101]) = true := by rw [hbe, Lib.toList_data]; decide
                  have HBE := Lib.hid (show besN = s.data.toList by rw [hbe]; rfl)
                  clear hbe
                  go_wp2
                  have RW := Lib.hid (HR8.out.below (Below.refl _ _).drew : Run w0 wr.drew F8 db S8)
                  refine wp_region_still_tail 8 (by kernel_rfl) (by kernel_rfl) ?_
                  simp only [List.take_succ_cons, List.take_zero, List.drop_succ_cons, List.drop_zero]
                  have n2 : wr.drew.cell? ⟨w.heap.size, 2, none⟩ = some (.string s) := m2
                  have n1 : wr.drew.cell? ⟨w.heap.size, 1, none⟩ = some (.slice (some ⟨b, o, none⟩) nB cB) := m1
                  have nBc : wr.drew.cell? ⟨b, o + i2, none⟩ = some (.slice xa xn xc) := mB
                  iterate 8 still_step
                  refine wpStill_nil ?_
                  change wpList _ _ _ _ _ wr.drew
                  clear n1 n2 nBc
                  go_wp2_with (first
                    | (go_at_call 22; (with_reducible refine (A8.out _ _ RW.out).mono ?_); rintro e W9 ⟨rfl, F9, hr9⟩; have R9 := Lib.hid hr9; clear m0 m1 m2 m3 m4 mB; obtain ⟨m0, m1, m2, m3, m4⟩ := KC.out W9 hr9.2.2; have mB := (HB.out.below hr9.2.2).cell i2 HIN.out; rw [hYE] at mB; clear hr9)
                    | (go_at_call 22; (with_reducible refine (A9.out _ _ R9.out).mono ?_); rintro e W10 ⟨rfl, F10, hr10⟩; have R10 := Lib.hid hr10; clear m0 m1 m2 m3 m4 mB; obtain ⟨m0, m1, m2, m3, m4⟩ := KC.out W10 hr10.2.2; have mB := (HB.out.below hr10.2.2).cell i2 HIN.out; rw [hYE] at mB; have hsx := run_str (HY.out.below hr10.2.2) 9 Try.underlying9; clear hr10))
                  go_roundg (nB - (i2 + 1))
                  case measure => have := HG2.out; have := HIN.out; omega
                  case rel => exact ⟨i2 + 1, S10, F10, _, R10.out, HF10.out.mono (by omega), B2.out.1.mono (by have := HXN.out; omega), (by have h := B2.out.2; rw [if_pos HBE.out, List.append_assoc] at h; exact h), rfl, by go_num, by have := HG2.out; have := HIN.out; omega⟩
                · have hbq : (s.toList == [98, 101, 115, 105, 100, 101]) = false := by rw [Lib.toList_data]; simp only [beq_eq_false_iff_ne, ne_eq]; intro h; exact hbe (by rw [← strB_of s, h]; rfl)
                  have HBE := Lib.hid (show ¬ besN = s.data.toList from fun h => hbe (by rw [← strB_of s, ← h]; rfl))
                  clear hbe
                  go_wp2
                  have RW := Lib.hid (HR8.out.below (Below.refl _ _).drew : Run w0 wr.drew F8 db S8)
                  refine wp_region_still_tail 8 (by kernel_rfl) (by kernel_rfl) ?_
                  simp only [List.take_succ_cons, List.take_zero, List.drop_succ_cons, List.drop_zero]
                  have n2 : wr.drew.cell? ⟨w.heap.size, 2, none⟩ = some (.string s) := m2
                  have n1 : wr.drew.cell? ⟨w.heap.size, 1, none⟩ = some (.slice (some ⟨b, o, none⟩) nB cB) := m1
                  have nBc : wr.drew.cell? ⟨b, o + i2, none⟩ = some (.slice xa xn xc) := mB
                  iterate 8 still_step
                  refine wpStill_nil ?_
                  change wpList _ _ _ _ _ wr.drew
                  clear n1 n2 nBc
                  go_wp2_with (first
                    | (go_at_call 22; (with_reducible refine (A8.out _ _ RW.out).mono ?_); rintro e W9 ⟨rfl, F9, hr9⟩; have R9 := Lib.hid hr9; clear m0 m1 m2 m3 m4 mB; obtain ⟨m0, m1, m2, m3, m4⟩ := KC.out W9 hr9.2.2; have mB := (HB.out.below hr9.2.2).cell i2 HIN.out; rw [hYE] at mB; clear hr9)
                    | (go_at_call 22; (with_reducible refine (A9.out _ _ R9.out).mono ?_); rintro e W10 ⟨rfl, F10, hr10⟩; have R10 := Lib.hid hr10; clear m0 m1 m2 m3 m4 mB; obtain ⟨m0, m1, m2, m3, m4⟩ := KC.out W10 hr10.2.2; have mB := (HB.out.below hr10.2.2).cell i2 HIN.out; rw [hYE] at mB; have hsx := run_str (HY.out.below hr10.2.2) 9 Try.underlying9; clear hr10))
                  go_roundg (nB - (i2 + 1))
                  case measure => have := HG2.out; have := HIN.out; omega
                  case rel => exact ⟨i2 + 1, S10, F10, _, R10.out, HF10.out.mono (by omega), B2.out.1.mono (by have := HXN.out; omega), (by have h := B2.out.2; rw [if_neg HBE.out] at h; exact h), rfl, by go_num, by have := HG2.out; have := HIN.out; omega⟩
            · have hi9 := HC8.out.inv
              obtain ⟨S11, hS11⟩ : ∃ S11, crashS S8 lF = S11 := ⟨_, rfl⟩
              obtain ⟨m, hm1, hm2, hrd⟩ := held_crash hi9 HH8.out lF
              rw [hS11] at hrd
              have hk2 : S8.kept.length + S8.acts.length ≤ 1000000 := by have := HF8.out.dirs; have := hjI; omega
              have CR2 := Lib.hid (crash_in2 HR8.out HF.out hk2 HZ.out hS11)
              have RD2 := Lib.hid (fun W F (R : Run w0 W F db S11) => aw_read R s hrd)
              have HM1 := Lib.hid hm1
              have HM2 := Lib.hid hm2
              have HAL := Lib.hid (held_len HC8.out HH8.out)
              have AW := Lib.hid (fun W => awake_any W)
              clear hi9 hS11 hm1 hm2 hrd hk2 hg hR hF hC hH
              go_wp2_with (first
                | (go_at_call 20; (with_reducible refine CR2.out.mono ?_); rintro e W12 ⟨rfl, F12, hr12, _⟩; have R12 := Lib.hid hr12; clear m0 m1 m2 m3 m4; obtain ⟨m0, m1, m2, m3, m4⟩ := KC.out W12 hr12.2.2; clear hr12)
                | (go_at_call 24; (with_reducible refine (RD2.out _ _ R12.out).mono ?_); rintro e W13 ⟨ar3, nr3, cr3, F13, rfl, hbt, hr13, hn13⟩; have R13 := Lib.hid hr13; have BY2 := Lib.hid hbt; clear hbt hr13 hn13))
              have hL1 : was.length = nr := BY.out.1
              have hL2 : (all.take m).length = nr3 := BY2.out.1
              have hL3 : nr3 = m := by rw [← hL2, List.length_take]; have := HM2.out; omega
              have g1 : (nr : Int) ≤ (nr3 : Int) := by have := HM1.out; omega
              obtain ⟨A, hA⟩ : ∃ A, A = strB all := ⟨_, rfl⟩
              have hAs : A.size = all.length := by rw [hA, strB_size]
              have g2 : (nr3 : Int) ≤ (A.size : Int) := by have := HM2.out; omega
              have g3 : (0 : Int) ≤ (nr3 : Int) := by omega
              have g4 : nr3 ≤ A.size := by omega
              have hex : A.extract 0 nr3 = strB (all.take m) := by
                rw [hA, hL3]
                apply ByteArray.ext
                simp [strB]
              have g5 : ((A.extract 0 nr3).toList == (strB (all.take m)).toList) = true := by rw [hex]; simp
              obtain ⟨Bn, hBn⟩ : ∃ Bn, Bn = strB (all.take m) := ⟨_, rfl⟩
              have hs3 := run_str (BY2.out.below (Below.refl _ _).drew) 9 Try.underlying9
              rw [← hBn] at hs3 g5
              rw [← hA]
              have RW := Lib.hid (R13.out.below (Below.refl _ _).drew : Run w0 W13.drew F13 db S11)
              clear hL1 hL2 hL3 hA hAs hex hBn m0 m1 m2 m3 m4
              refine wp_region_still_tail 30 (by kernel_rfl) (by kernel_rfl) ?_
              simp only [List.take_succ_cons, List.take_zero, List.drop_succ_cons, List.drop_zero]
              iterate 30 still_step
              refine wpStill_nil ?_
              change wpList _ _ _ _ _ W13.drew
              clear hs3
              generalize W13.drew = wd at RW ⊢
              go_wp2_with (go_at_call 18; (with_reducible refine (AW.out _).mono ?_); rintro e wz ⟨rfl, hbz⟩; have HBz := Lib.hid hbz; clear hbz)
              go_ret
              exact ⟨rfl, HB0.out.trans (RW.out.2.2.mono HB0.out.size |>.trans (HBz.out.mono (Nat.le_trans HB0.out.size RW.out.2.2.size)))⟩
      · have hU : setArm (crashS S []) 0 = upS S := by unfold upS; rw [hd]; rfl
        have DN := Lib.hid (down_yes HR.out hd)
        have CR := Lib.hid (crash_in2 (a := none) (n := 0) (c := 0) (l := []) hR At1.nil hk (fun z hz => by cases hz) rfl)
        have AR := Lib.hid (fun W F (R : Run w0 W F db (crashS S [])) => (by have h := arm_run (n := 0) R (by omega); rw [hU] at h; exact h : Calls Try.prog 21 #[Pt db, .int .i64 0] W (RunEnd w0 db (upS S) (.tuple #[]))))
        clear hd hU hR hF hk
        cases hm : mayN s.data.toList
        · have hm8 : (80 : Int) < (s.size : Int) ∨ (s.size : Int) < 1 := by
            unfold mayN at hm
            have e : s.data.toList.length = s.size := by simp
            rw [e] at hm
            by_cases h1 : 1 ≤ s.size
            · by_cases h2 : s.size ≤ 80
              · simp [h1, h2] at hm
              · left; omega
            · right; omega
          have AP := Lib.hid (fun W F (R : Run w0 W F db (upS S)) => app_in R HX.out HFu.out (by omega) s (append_ten HC.out.up hm lX))
          by_cases h1 : (s.size : Int) < 1
          · clear hm8
            go_wp2_with (first
            | (go_at_call 16; (with_reducible refine DN.out.mono ?_); rintro e W6 ⟨rfl, rfl⟩)
            | (go_at_call 20; (with_reducible refine CR.out.mono ?_); rintro e W3 ⟨rfl, F33, hr, _⟩; have R3 := Lib.hid hr; clear hr)
              | (go_at_call 21; (with_reducible refine (AR.out _ _ R3.out).mono ?_); rintro e W4 ⟨rfl, F4, hr⟩; have R4 := Lib.hid hr; obtain ⟨m0, m1, m2, m3, m4⟩ := KC.out W4 hr.2.2; clear hr)
              | (go_at_call 22; (with_reducible refine (AP.out _ _ R4.out).mono ?_); rintro e W5 ⟨rfl, F5, hr⟩; have R5 := Lib.hid hr; clear m0 m1 m2 m3 m4; obtain ⟨m0, m1, m2, m3, m4⟩ := KC.out W5 hr.2.2; clear hr))
            go_ret
            exact ⟨rfl, HB0.out.trans (R5.out.2.2.mono HB0.out.size)⟩
          · have h8 : (80 : Int) < (s.size : Int) := by omega
            clear hm8
            go_wp2_with (first
            | (go_at_call 16; (with_reducible refine DN.out.mono ?_); rintro e W6 ⟨rfl, rfl⟩)
            | (go_at_call 20; (with_reducible refine CR.out.mono ?_); rintro e W3 ⟨rfl, F33, hr, _⟩; have R3 := Lib.hid hr; clear hr)
              | (go_at_call 21; (with_reducible refine (AR.out _ _ R3.out).mono ?_); rintro e W4 ⟨rfl, F4, hr⟩; have R4 := Lib.hid hr; obtain ⟨m0, m1, m2, m3, m4⟩ := KC.out W4 hr.2.2; clear hr)
              | (go_at_call 22; (with_reducible refine (AP.out _ _ R4.out).mono ?_); rintro e W5 ⟨rfl, F5, hr⟩; have R5 := Lib.hid hr; clear m0 m1 m2 m3 m4; obtain ⟨m0, m1, m2, m3, m4⟩ := KC.out W5 hr.2.2; clear hr))
            go_ret
            exact ⟨rfl, HB0.out.trans (R5.out.2.2.mono HB0.out.size)⟩
        · obtain ⟨z1, z2, was, hH, hC2, hrd⟩ := ahead_step HC.out hm lX (by have := HLX.out; omega)
          have f3 : Few (appendS (upS S) s.data.toList lX).1 42 := few_append HFu.out _ _
          have f4 := few_sync (inv_append HC.out.inv _ _) f3 s.data.toList
          obtain ⟨S3, hS3⟩ : ∃ S3, S3 = (appendS (upS S) s.data.toList lX).1 := ⟨_, rfl⟩
          have e3 : appendS (upS S) s.data.toList lX = (S3, 0) := Prod.ext hS3.symm z1
          rw [← hS3] at z2 hH hC2 hrd f3 f4
          obtain ⟨S4, hS4⟩ : ∃ S4, S4 = (syncS S3 s.data.toList).1 := ⟨_, rfl⟩
          have e4 : syncS S3 s.data.toList = (S4, 0) := Prod.ext hS4.symm z2
          rw [← hS4] at hH hC2 hrd f4
          have AP := Lib.hid (fun W F (R : Run w0 W F db (upS S)) => app_in R HX.out HFu.out (by omega) s e3)
          have SY := Lib.hid (fun W F (R : Run w0 W F db S3) => sync_in R f3 (by omega) s e4)
          have RD := Lib.hid (fun W F (R : Run w0 W F db S4) => aw_read R s hrd)
          have HH := Lib.hid hH
          have HC2 := Lib.hid (hC2.mono (t2 := 12300) (by have := HLX.out; omega))
          have F42 := Lib.hid f4
          have HWL := Lib.hid (held_len HC2.out hH)
          have HM := Lib.hid hm
          clear z1 z2 hH hC2 hrd f3 f4 hS3 e3 hS4 e4 hm
          go_wp2_with (first
            | (go_at_call 16; (with_reducible refine DN.out.mono ?_); rintro e W6 ⟨rfl, rfl⟩)
            | (go_at_call 20; (with_reducible refine CR.out.mono ?_); rintro e W3 ⟨rfl, F33, hr, _⟩; have R3 := Lib.hid hr; clear hr)
            | (go_at_call 21; (with_reducible refine (AR.out _ _ R3.out).mono ?_); rintro e W4 ⟨rfl, F4, hr⟩; have R4 := Lib.hid hr; obtain ⟨m0, m1, m2, m3, m4⟩ := KC.out W4 hr.2.2; clear hr)
            | (go_at_call 22; (with_reducible refine (AP.out _ _ R4.out).mono ?_); rintro e W5 ⟨rfl, F5, hr⟩; have R5 := Lib.hid hr; clear m0 m1 m2 m3 m4; obtain ⟨m0, m1, m2, m3, m4⟩ := KC.out W5 hr.2.2; clear hr)
            | (go_at_call 23; (with_reducible refine (SY.out _ _ R5.out).mono ?_); rintro e W6 ⟨rfl, F6, hr⟩; have R6 := Lib.hid hr; clear m0 m1 m2 m3 m4; obtain ⟨m0, m1, m2, m3, m4⟩ := KC.out W6 hr.2.2; clear hr)
            | (go_at_call 24; (with_reducible refine (RD.out _ _ R6.out).mono ?_); rintro e W7 ⟨ar, nr, cr, F7, rfl, hbt, hr, hn7⟩; have R7 := Lib.hid hr; have BY := Lib.hid hbt; have hs := run_str hbt 9 Try.underlying9; clear m0 m1 m2 m3 m4; obtain ⟨m0, m1, m2, m3, m4⟩ := KC.out W7 hr.2.2; clear hr hbt hn7))
          clear AP SY RD AR DN
          have H72 := Lib.hid (show Few _ (42 + 2 * 0) from F42.out)
          have HT2 := Lib.hid (HC2.out.mono (t2 := 12300 + 600 * 0) (by omega))
          go_loopg [7, 8] nB (fun g v7 v8 W => ∃ i : Nat, ∃ S F all, Run w0 W F db S ∧ Few S (42 + 2 * i) ∧ Calm S 1048576 (12300 + 600 * i) ∧ HeldS S s.data.toList was all ∧ v7 = .string (strB all) ∧ v8 = .int .i64 i ∧ g + i = nB)
          case atStart => exact ⟨0, _, _, was, R7.out, H72.out, HT2.out, HH.out, rfl, rfl, rfl⟩
          case round =>
            obtain ⟨i2, S8, F8, all, hR, hF, hC, hH, rfl, rfl, hg⟩ := hrel
            have HG2 := Lib.hid hg
            have HR8 := Lib.hid hR
            have HF8 := Lib.hid hF
            have HC8 := Lib.hid hC
            have HH8 := Lib.hid hH
            have hj0 : (0 : Int) ≤ (i2 : Int) := by omega
            have hjI : (i2 : Int) ≤ (nB : Int) := by omega
            clear m0 m1 m2 m3 m4
            obtain ⟨m0, m1, m2, m3, m4⟩ := KC.out wr hR.2.2
            by_cases hj : (i2 : Int) < (nB : Int)
            · have hin : i2 < nB := by omega
              obtain ⟨b, o, rfl⟩ := HB.out.some_ (by omega)
              have mB := (HB.out.below hR.2.2).cell i2 hin
              have hY := HB.out.each i2 hin
              obtain ⟨x, hYE⟩ : ∃ x, LB.getD i2 default = x := ⟨_, rfl⟩
              rw [hYE] at mB hY
              obtain ⟨xa, xn, xc, xl⟩ := x
              simp only at mB hY
              have HY := Lib.hid hY
              have HYL := Lib.hid hY.1
              clear hg hR hF hC hH hY
              by_cases hl : (300 : Int) < (xn : Int)
              · go_wp2
                go_ret
                exact ⟨rfl, HB0.out.trans (HR8.out.2.2.mono HB0.out.size)⟩
              · have hxn : xl.length ≤ 300 := by have := HYL.out; omega
                have HXN := Lib.hid hxn
                obtain ⟨S9, hS9⟩ : ∃ S9, S9 = (appendS S8 s.data.toList xl).1 := ⟨_, rfl⟩
                obtain ⟨S10, hS10⟩ : ∃ S10, S10 = (appendS S9 besN xl).1 := ⟨_, rfl⟩
                have B2 := Lib.hid (behind_step (u := besN) HC8.out HH8.out HM.out (by decide) xl (by omega))
                rw [← hS9, ← hS10] at B2
                have F9' : Few S9 (42 + 2 * i2 + 1) := hS9 ▸ few_append HF8.out _ _
                have HF10 := Lib.hid (hS10 ▸ few_append F9' besN xl : Few S10 (42 + 2 * i2 + 1 + 1))
                have A8 := Lib.hid (fun W F (R : Run w0 W F db S8) => app_in R HY.out HF8.out (by omega) s (S2 := S9) (z := (appendS S8 s.data.toList xl).2) (Prod.ext hS9.symm rfl))
                have A9 := Lib.hid (fun W F (R : Run w0 W F db S9) => app_in R HY.out F9' (by omega) besB (S2 := S10) (z := (appendS S9 besN xl).2) (Prod.ext hS10.symm rfl))
                have HAL := Lib.hid (held_len HC8.out HH8.out)
                have cat1 := fun W => run_cat all xl (by have := HAL.out; have := HXN.out; omega) W
                have cat2 := fun W => run_cat (all ++ xl) xl (by have := HAL.out; have := HXN.out; rw [List.length_append]; omega) W
                have HIN := Lib.hid hin
                clear hS9 hS10 F9' hin
                generalize (appendS S8 s.data.toList xl).2 = z9 at A8
                generalize (appendS S9 besN xl).2 = z10 at A9
                by_cases hbe : s = besB
                · have hbq : (s.toList == [98, 101, 115, 105, 100, 101]) = true := by rw [hbe, Lib.toList_data]; decide
                  have HBE := Lib.hid (show besN = s.data.toList by rw [hbe]; rfl)
                  clear hbe
                  go_wp2
                  have RW := Lib.hid (HR8.out.below (Below.refl _ _).drew : Run w0 wr.drew F8 db S8)
                  refine wp_region_still_tail 8 (by kernel_rfl) (by kernel_rfl) ?_
                  simp only [List.take_succ_cons, List.take_zero, List.drop_succ_cons, List.drop_zero]
                  have n2 : wr.drew.cell? ⟨w.heap.size, 2, none⟩ = some (.string s) := m2
                  have n1 : wr.drew.cell? ⟨w.heap.size, 1, none⟩ = some (.slice (some ⟨b, o, none⟩) nB cB) := m1
                  have nBc : wr.drew.cell? ⟨b, o + i2, none⟩ = some (.slice xa xn xc) := mB
                  iterate 8 still_step
                  refine wpStill_nil ?_
                  change wpList _ _ _ _ _ wr.drew
                  clear n1 n2 nBc
                  go_wp2_with (first
                    | (go_at_call 22; (with_reducible refine (A8.out _ _ RW.out).mono ?_); rintro e W9 ⟨rfl, F9, hr9⟩; have R9 := Lib.hid hr9; clear m0 m1 m2 m3 m4 mB; obtain ⟨m0, m1, m2, m3, m4⟩ := KC.out W9 hr9.2.2; have mB := (HB.out.below hr9.2.2).cell i2 HIN.out; rw [hYE] at mB; clear hr9)
                    | (go_at_call 22; (with_reducible refine (A9.out _ _ R9.out).mono ?_); rintro e W10 ⟨rfl, F10, hr10⟩; have R10 := Lib.hid hr10; clear m0 m1 m2 m3 m4 mB; obtain ⟨m0, m1, m2, m3, m4⟩ := KC.out W10 hr10.2.2; have mB := (HB.out.below hr10.2.2).cell i2 HIN.out; rw [hYE] at mB; have hsx := run_str (HY.out.below hr10.2.2) 9 Try.underlying9; clear hr10))
                  go_roundg (nB - (i2 + 1))
                  case measure => have := HG2.out; have := HIN.out; omega
                  case rel => exact ⟨i2 + 1, S10, F10, _, R10.out, HF10.out.mono (by omega), B2.out.1.mono (by have := HXN.out; omega), (by have h := B2.out.2; rw [if_pos HBE.out, List.append_assoc] at h; exact h), rfl, by go_num, by have := HG2.out; have := HIN.out; omega⟩
                · have hbq : (s.toList == [98, 101, 115, 105, 100, 101]) = false := by rw [Lib.toList_data]; simp only [beq_eq_false_iff_ne, ne_eq]; intro h; exact hbe (by rw [← strB_of s, h]; rfl)
                  have HBE := Lib.hid (show ¬ besN = s.data.toList from fun h => hbe (by rw [← strB_of s, ← h]; rfl))
                  clear hbe
                  go_wp2
                  have RW := Lib.hid (HR8.out.below (Below.refl _ _).drew : Run w0 wr.drew F8 db S8)
                  refine wp_region_still_tail 8 (by kernel_rfl) (by kernel_rfl) ?_
                  simp only [List.take_succ_cons, List.take_zero, List.drop_succ_cons, List.drop_zero]
                  have n2 : wr.drew.cell? ⟨w.heap.size, 2, none⟩ = some (.string s) := m2
                  have n1 : wr.drew.cell? ⟨w.heap.size, 1, none⟩ = some (.slice (some ⟨b, o, none⟩) nB cB) := m1
                  have nBc : wr.drew.cell? ⟨b, o + i2, none⟩ = some (.slice xa xn xc) := mB
                  iterate 8 still_step
                  refine wpStill_nil ?_
                  change wpList _ _ _ _ _ wr.drew
                  clear n1 n2 nBc
                  go_wp2_with (first
                    | (go_at_call 22; (with_reducible refine (A8.out _ _ RW.out).mono ?_); rintro e W9 ⟨rfl, F9, hr9⟩; have R9 := Lib.hid hr9; clear m0 m1 m2 m3 m4 mB; obtain ⟨m0, m1, m2, m3, m4⟩ := KC.out W9 hr9.2.2; have mB := (HB.out.below hr9.2.2).cell i2 HIN.out; rw [hYE] at mB; clear hr9)
                    | (go_at_call 22; (with_reducible refine (A9.out _ _ R9.out).mono ?_); rintro e W10 ⟨rfl, F10, hr10⟩; have R10 := Lib.hid hr10; clear m0 m1 m2 m3 m4 mB; obtain ⟨m0, m1, m2, m3, m4⟩ := KC.out W10 hr10.2.2; have mB := (HB.out.below hr10.2.2).cell i2 HIN.out; rw [hYE] at mB; have hsx := run_str (HY.out.below hr10.2.2) 9 Try.underlying9; clear hr10))
                  go_roundg (nB - (i2 + 1))
                  case measure => have := HG2.out; have := HIN.out; omega
                  case rel => exact ⟨i2 + 1, S10, F10, _, R10.out, HF10.out.mono (by omega), B2.out.1.mono (by have := HXN.out; omega), (by have h := B2.out.2; rw [if_neg HBE.out] at h; exact h), rfl, by go_num, by have := HG2.out; have := HIN.out; omega⟩
            · have hi9 := HC8.out.inv
              obtain ⟨S11, hS11⟩ : ∃ S11, crashS S8 lF = S11 := ⟨_, rfl⟩
              obtain ⟨m, hm1, hm2, hrd⟩ := held_crash hi9 HH8.out lF
              rw [hS11] at hrd
              have hk2 : S8.kept.length + S8.acts.length ≤ 1000000 := by have := HF8.out.dirs; have := hjI; omega
              have CR2 := Lib.hid (crash_in2 HR8.out HF.out hk2 HZ.out hS11)
              have RD2 := Lib.hid (fun W F (R : Run w0 W F db S11) => aw_read R s hrd)
              have HM1 := Lib.hid hm1
              have HM2 := Lib.hid hm2
              have HAL := Lib.hid (held_len HC8.out HH8.out)
              have AW := Lib.hid (fun W => awake_any W)
              clear hi9 hS11 hm1 hm2 hrd hk2 hg hR hF hC hH
              go_wp2_with (first
                | (go_at_call 20; (with_reducible refine CR2.out.mono ?_); rintro e W12 ⟨rfl, F12, hr12, _⟩; have R12 := Lib.hid hr12; clear m0 m1 m2 m3 m4; obtain ⟨m0, m1, m2, m3, m4⟩ := KC.out W12 hr12.2.2; clear hr12)
                | (go_at_call 24; (with_reducible refine (RD2.out _ _ R12.out).mono ?_); rintro e W13 ⟨ar3, nr3, cr3, F13, rfl, hbt, hr13, hn13⟩; have R13 := Lib.hid hr13; have BY2 := Lib.hid hbt; clear hbt hr13 hn13))
              have hL1 : was.length = nr := BY.out.1
              have hL2 : (all.take m).length = nr3 := BY2.out.1
              have hL3 : nr3 = m := by rw [← hL2, List.length_take]; have := HM2.out; omega
              have g1 : (nr : Int) ≤ (nr3 : Int) := by have := HM1.out; omega
              obtain ⟨A, hA⟩ : ∃ A, A = strB all := ⟨_, rfl⟩
              have hAs : A.size = all.length := by rw [hA, strB_size]
              have g2 : (nr3 : Int) ≤ (A.size : Int) := by have := HM2.out; omega
              have g3 : (0 : Int) ≤ (nr3 : Int) := by omega
              have g4 : nr3 ≤ A.size := by omega
              have hex : A.extract 0 nr3 = strB (all.take m) := by
                rw [hA, hL3]
                apply ByteArray.ext
                simp [strB]
              have g5 : ((A.extract 0 nr3).toList == (strB (all.take m)).toList) = true := by rw [hex]; simp
              obtain ⟨Bn, hBn⟩ : ∃ Bn, Bn = strB (all.take m) := ⟨_, rfl⟩
              have hs3 := run_str (BY2.out.below (Below.refl _ _).drew) 9 Try.underlying9
              rw [← hBn] at hs3 g5
              rw [← hA]
              have RW := Lib.hid (R13.out.below (Below.refl _ _).drew : Run w0 W13.drew F13 db S11)
              clear hL1 hL2 hL3 hA hAs hex hBn m0 m1 m2 m3 m4
              refine wp_region_still_tail 30 (by kernel_rfl) (by kernel_rfl) ?_
              simp only [List.take_succ_cons, List.take_zero, List.drop_succ_cons, List.drop_zero]
              iterate 30 still_step
              refine wpStill_nil ?_
              change wpList _ _ _ _ _ W13.drew
              clear hs3
              generalize W13.drew = wd at RW ⊢
              go_wp2_with (go_at_call 18; (with_reducible refine (AW.out _).mono ?_); rintro e wz ⟨rfl, hbz⟩; have HBz := Lib.hid hbz; clear hbz)
              go_ret
              exact ⟨rfl, HB0.out.trans (RW.out.2.2.mono HB0.out.size |>.trans (HBz.out.mono (Nat.le_trans HB0.out.size RW.out.2.2.size)))⟩
end Go.Proofs.Ytmlnmjpohkjgbaa
