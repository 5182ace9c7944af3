/-
  Merged: RefUnhex, RfRefRight.
-/
import Derived.Test.YthihmlojdopmfaaDoorGrp12
import Derived.Test.YthihmlojdopmfaaDoorGrp1
import Derived.BigQuiet
import Derived.Deep.QuietTactic
import Derived.Test.YthihmlojdopmfaaDoorGrp21
import Derived.Test.YthihmlojdopmfaaDoorGrp13
import Derived.Test.YthihmlojdopmfaaDoorRfLook
import Derived.Deep.RegionHeld3
namespace Go.Proofs.YthihmlojdopmfaaDoor
open Go.RowKit

theorem IdAt.drewN {w : World} {g : Nat} {l : List UInt8} (h : IdAt w g l) (n : Nat) : IdAt (w.drewN n) g l := h
theorem below_drewN {base : Nat} {w w' : World} (h : Below base w w') (n : Nat) : Below base w (w'.drewN n) := ⟨h.os, h.tape, h.output, h.size, h.block⟩

end Go.Proofs.YthihmlojdopmfaaDoor

namespace Go.Proofs.YthihmlojdopmfaaDoor
open Go.RowKit

theorem refNote_is20 (n : List UInt8) (q : Bool) (hq : noteF n = q) (hl : n.length ≤ 100000) (w : World) : Calls Tryd.prog 38 #[.string (strB n)] w fun e w' => e = .returned (.bool q) ∧ Below w.heap.size w w' := by
 have h := refNote_any (strB n) w (by rw [strB_size]; omega)
 rw [strB_list, hq] at h
 exact h
set_option maxRecDepth 100000 in
set_option maxHeartbeats 8000000 in
theorem refRight_any (S : RfS) (r : RefsV) (w : World) (h : RfIn w S r) (hs : RfLen r) (q : Bool) (hq : q = true ↔ RightV r) :
  Calls Tryd.prog 15 #[.agg (rfC S r.head r.at_)] w fun e w' => e = .returned (.bool q) ∧ Below w.heap.size w w' := by
 obtain ⟨q1, q2, q3, q4, h1, h2, h3, h4⟩ := right_some r
 have HA := Lib.hid h.at_
 have HR0 := Lib.hid (show RowAt (w.alloc (.cells (rfC S r.head r.at_) RREf)) w.heap.size RREf (rfL S r.head r.at_) from heap_alloc_new w _)
 have HB0 := Lib.hid ((Below.refl w.heap.size w).alloc (Nat.le_refl _) (.cells (rfC S r.head r.at_) RREf))
 have N1 := Lib.hid (fun W (hW : Below w.heap.size w W) => refList_any S.ab S.nb S.cb r.br W (h.br.below hW) q1 h1)
 have N2 := Lib.hid (fun W (hW : Below w.heap.size w W) => refList_any S.ag S.ng S.cg r.tg W (h.tg.below hW) q2 h2)
 have HQ := Lib.hid (show q = (q1 && q2 && q3 && q4) by
  rw [Bool.eq_iff_iff]
  simp only [Bool.and_eq_true]
  rw [hq, h1, h2, h4]
  unfold RightV
  rw [h3]
  constructor
  ·rintro ⟨a, b, c, d⟩; exact ⟨⟨⟨a, b⟩, c⟩, d⟩
  ·rintro ⟨⟨⟨a, b⟩, c⟩, d⟩; exact ⟨a, b, c, d⟩)
 have HQ4 := Lib.hid h4
 have HF4 := Lib.hid (show ¬ LogOk r.log → q4 = false from fun h => by
  cases q4
  ·rfl
  ·exact absurd (HQ4.out.1 rfl) h)
 obtain ⟨p, hp⟩ : ∃ p, strB r.head = p := ⟨_, rfl⟩
 obtain ⟨z, hz⟩ : ∃ z, decide (r.at_ = idZero) = z := ⟨_, rfl⟩
 obtain ⟨m, hm⟩ : ∃ m, nameF r.head = m := ⟨_, rfl⟩
 obtain ⟨e, he⟩ : ∃ e, decide (r.head = []) = e := ⟨_, rfl⟩
 have HH := Lib.hid (show q3 = (if e then !z else m && z) by
  rw [← h3, ← he, ← hz, ← hm]
  unfold headF
  by_cases h : r.head = []
  ·rw [if_pos h, decide_eq_true h]; rfl
  ·rw [if_neg h, decide_eq_false h]; rfl)
 have HZ := Lib.hid (fun W => refZero_any r.at_ HA.out z hz W)
 have HN := Lib.hid (fun W => hp ▸ refName_is r.head m hm W)
 have hpe : (p.toList == []) = e := by rw [← hp, strB_nil, he]
 have hpn : (p.toList != []) = !e := by rw [bne, hpe]
 have HPE := Lib.hid hpe
 have HPN := Lib.hid hpn
 have HC0 := Lib.hid (fun W (hh : RowAt W w.heap.size RREf (rfL S r.head r.at_)) => rf_br hh)
 have HC1 := Lib.hid (fun W (hh : RowAt W w.heap.size RREf (rfL S r.head r.at_)) => rf_tg hh)
 have HC2 := Lib.hid (fun W (hh : RowAt W w.heap.size RREf (rfL S r.head r.at_)) => (hp ▸ rf_hd hh : W.cell? ⟨w.heap.size, 2, none⟩ = some (.string p)))
 have HC35 := Lib.hid (fun W (hh : RowAt W w.heap.size RREf (rfL S r.head r.at_)) => rf_log HA.out hh)
 have HLG := Lib.hid (fun W (hW : Below w.heap.size w W) => h.log.below hW)
 have HLL := Lib.hid h.log.1
 have HSS := Lib.hid hs
 have hlM : (S.nl : Int) ≤ 9223372036854775807 := by have := h.log.2.1; have := h.log.2.2.1; omega
 have c0 := HC0.out _ HR0.out
 clear h hs hq h1 h2 h3 h4 hp hz hm he hpe hpn
 have hF : q = false → ∀ W, Below w.heap.size w W → (Ending.returned (.bool false) = Ending.returned (.bool q) ∧ Below w.heap.size w W) := fun hq W hW => ⟨by rw [hq], hW⟩
 have HFF := Lib.hid hF
 clear hF
 cases q1
 ·go_enter Tryd.func15, Tryd.ntmps15
  go_wp2_with (go_at_call 35; go_must (refine (N1.out _ HB0.out).mono ?_); rintro e w2 ⟨rfl, hb2⟩; have HB2 := thn HB0 hb2; clear hb2)
  go_ret
  exact HFF.out (by rw [HQ.out]; rfl) _ HB2.out
 cases q2
 ·go_enter Tryd.func15, Tryd.ntmps15
  go_wp2_with (first
   | (go_at_call 35; (with_reducible refine (N1.out _ HB0.out).mono ?_); rintro e w2 ⟨rfl, hb2⟩; have HB2 := thn HB0 hb2; have HR2 := Lib.hid (HR0.out.below hb2); have c1 := HC1.out _ HR2.out; clear hb2)
   | (go_at_call 35; (with_reducible refine (N2.out _ HB2.out).mono ?_); rintro e w3 ⟨rfl, hb3⟩; have HB3 := thn HB2 hb3; clear hb3))
  go_ret
  exact HFF.out (by rw [HQ.out]; rfl) _ HB3.out
 by_cases hl : (64 : Int) < (S.nl : Int)
 ·have d1 : decide (64 < S.nl) = true := decide_eq_true (by omega)
  have HF := Lib.hid (HF4.out (fun h2 => by have := h2.1; have := HLL.out; omega))
  go_enter Tryd.func15, Tryd.ntmps15
  go_wp2_with (first
   | (go_at_call 35; (with_reducible refine (N1.out _ HB0.out).mono ?_); rintro e w2 ⟨rfl, hb2⟩; have HB2 := thn HB0 hb2; have HR2 := Lib.hid (HR0.out.below hb2); have c1 := HC1.out _ HR2.out; clear hb2)
   | (go_at_call 35; (with_reducible refine (N2.out _ HB2.out).mono ?_); rintro e w3 ⟨rfl, hb3⟩; have HB3 := thn HB2 hb3; have HR3 := Lib.hid (HR2.out.below hb3); have c35 := HC35.out _ HR3.out; clear hb3))
  go_ret
  exact HFF.out (by rw [HQ.out, HF.out]; simp) _ HB3.out
 have hlI : (S.nl : Int) ≤ 64 := by omega
 have HLI := Lib.hid hlI
 have d1 : decide (64 < S.nl) = false := decide_eq_false (by omega)
 cases e
 ·have hpe := HPE.out
  have hpn := HPN.out
  cases m
  ·go_enter Tryd.func15, Tryd.ntmps15
   go_wp2_with (first
    | (go_at_call 35; (with_reducible refine (N1.out _ HB0.out).mono ?_); rintro e w2 ⟨rfl, hb2⟩; have HB2 := thn HB0 hb2; have HR2 := Lib.hid (HR0.out.below hb2); have c1 := HC1.out _ HR2.out; clear hb2)
    | (go_at_call 35; (with_reducible refine (N2.out _ HB2.out).mono ?_); rintro e w3 ⟨rfl, hb3⟩; have HB3 := thn HB2 hb3; have HR3 := Lib.hid (HR2.out.below hb3); have c35 := HC35.out _ HR3.out; have c2 := HC2.out _ HR3.out; clear hb3)
    | (go_at_call 37; go_must (refine (HN.out _).mono ?_); rintro e w4 ⟨rfl, hb⟩; have HB4 := thn HB3 hb; have HR4 := Lib.hid (HR3.out.below hb); have c35 := HC35.out _ HR4.out; clear hb))
   go_ret
   exact HFF.out (by rw [HQ.out, HH.out]; rfl) _ HB4.out
  cases z
  ·go_enter Tryd.func15, Tryd.ntmps15
   go_wp2_with (first
    | (go_at_call 35; (with_reducible refine (N1.out _ HB0.out).mono ?_); rintro e w2 ⟨rfl, hb2⟩; have HB2 := thn HB0 hb2; have HR2 := Lib.hid (HR0.out.below hb2); have c1 := HC1.out _ HR2.out; clear hb2)
    | (go_at_call 35; (with_reducible refine (N2.out _ HB2.out).mono ?_); rintro e w3 ⟨rfl, hb3⟩; have HB3 := thn HB2 hb3; have HR3 := Lib.hid (HR2.out.below hb3); have c35 := HC35.out _ HR3.out; have c2 := HC2.out _ HR3.out; clear hb3)
    | (go_at_call 37; go_must (refine (HN.out _).mono ?_); rintro e w4 ⟨rfl, hb⟩; have HB4 := thn HB3 hb; have HR4 := Lib.hid (HR3.out.below hb); have c35 := HC35.out _ HR4.out; clear hb)
    | ((with_reducible refine atS 40 ?_); go_must (refine wl_ex rfl (exec_loadId _ rfl w.heap.size 3 r.at_ HA.out rfl (rf_at HR4.out)) ?_))
    | (go_at_call 36; go_must (refine (HZ.out _).mono ?_); rintro e w5 ⟨rfl, hb⟩; have HB5 := thn HB4 hb; have HR5 := Lib.hid (HR4.out.below hb); have c35 := HC35.out _ HR5.out; have c2 := HC2.out _ HR5.out; clear hb))
   go_ret
   exact HFF.out (by rw [HQ.out, HH.out]; rfl) _ HB5.out
  ·go_enter Tryd.func15, Tryd.ntmps15
   go_wp2_with (first
    | (go_at_call 35; (with_reducible refine (N1.out _ HB0.out).mono ?_); rintro e w2 ⟨rfl, hb2⟩; have HB2 := thn HB0 hb2; have HR2 := Lib.hid (HR0.out.below hb2); have c1 := HC1.out _ HR2.out; clear hb2)
    | (go_at_call 35; (with_reducible refine (N2.out _ HB2.out).mono ?_); rintro e w3 ⟨rfl, hb3⟩; have HB3 := thn HB2 hb3; have HR3 := Lib.hid (HR2.out.below hb3); have c35 := HC35.out _ HR3.out; have c2 := HC2.out _ HR3.out; clear hb3)
    | (go_at_call 37; go_must (refine (HN.out _).mono ?_); rintro e w4 ⟨rfl, hb⟩; have HB4 := thn HB3 hb; have HR4 := Lib.hid (HR3.out.below hb); have c35 := HC35.out _ HR4.out; clear hb)
    | ((with_reducible refine atS 40 ?_); go_must (refine wl_ex rfl (exec_loadId _ rfl w.heap.size 3 r.at_ HA.out rfl (rf_at HR4.out)) ?_))
    | (go_at_call 36; go_must (refine (HZ.out _).mono ?_); rintro e w5 ⟨rfl, hb⟩; have HB5 := thn HB4 hb; have HR5 := Lib.hid (HR4.out.below hb); have c35 := HC35.out _ HR5.out; have c2 := HC2.out _ HR5.out; clear hb))
   clear c2
   have HBq := HB5
   have HRq := HR5
   go_loopg [3] S.nl (fun g v3 W => ∃ i : Nat, v3 = .int .i64 i ∧ g + i = S.nl ∧ Hid (Below w.heap.size w W) ∧ Hid (RowAt W w.heap.size RREf (rfL S r.head r.at_)) ∧ Hid (∀ j, j < i → entF (gd r.log j) = true))
   case atStart => exact ⟨0, rfl, rfl, HBq, HRq, Lib.hid (fun j hj => absurd hj (Nat.not_lt_zero _))⟩
   case round =>
    clear c35
    obtain ⟨i, rfl, hg, HB, HR, HOK⟩ := hrel
    have HG := Lib.hid hg
    have hi0 : (0 : Int) ≤ (i : Int) := by omega
    have hiI : (i : Int) ≤ (S.nl : Int) := by omega
    have c35 := HC35.out _ HR.out
    by_cases hi : (i : Int) < (S.nl : Int)
    ·have hin : i < S.nl := by omega
     have HI := Lib.hid hin
     have HLW := Lib.hid (HLG.out _ HB.out)
     obtain ⟨b, o, hab⟩ := HLW.out.some_ (by omega)
     obtain ⟨X, hX⟩ : ∃ X, X = gd r.log i := ⟨_, rfl⟩
     have HXO : Hid (UpOk X.upd) := Lib.hid (hX ▸ HLW.out.ok hin)
     have HXE := Lib.hid hX
     have HXM : Hid (X ∈ r.log) := Lib.hid (by rw [hX]; exact gd_mem (by rw [HLL.out]; exact hin))
     have HXR : Hid (wr.rangeAt b (o + i * 67) (enL X)) := Lib.hid (by have h := HLW.out; rw [hab] at h; exact hX ▸ h.at_ i hin)
     rw [hab] at c35
     obtain ⟨ki, hki⟩ : ∃ ki : Int, (X.upd.kind : Int) = ki := ⟨_, rfl⟩
     have HKI := Lib.hid hki
     obtain ⟨pn, hpn⟩ : ∃ pn, strB X.upd.name = pn := ⟨_, rfl⟩
     have hps : pn.size = X.upd.name.length := by rw [← hpn, strB_size]
     have hpM : (pn.size : Int) ≤ 100000 := by rw [hps]; have := (HSS.out X HXM.out).1; omega
     have HPS := Lib.hid hps
     obtain ⟨t, ht⟩ : ∃ t, strB X.note = t := ⟨_, rfl⟩
     obtain ⟨mm, hmm⟩ : ∃ mm, noteF X.note = mm := ⟨_, rfl⟩
     have HNM := Lib.hid (fun W => ht ▸ refNote_is20 X.note mm hmm (HSS.out X HXM.out).2 W)
     have HME := Lib.hid hmm
     have HE0 := Lib.hid (fun W g (hh : RowAt W g EEf (enL X)) => (hki ▸ hh.cell 0 rfl : W.cell? ⟨g, 0, none⟩ = some (.int .u8 ki)))
     have HE1 := Lib.hid (fun W g (hh : RowAt W g EEf (enL X)) => (hpn ▸ hh.cell 1 rfl : W.cell? ⟨g, 1, none⟩ = some (.string pn)))
     have HE66 := Lib.hid (fun W g (hh : RowAt W g EEf (enL X)) => (ht ▸ en_note HXO.out hh : W.cell? ⟨g, 66, none⟩ = some (.string t)))
     clear hg hX hki hpn hps ht hmm hab HLW
     by_cases k1 : ki < 1
     ·have HZ4 := Lib.hid (ent_bad HF4.out HXM.out (fun h => by unfold entF at h; simp only [Bool.and_eq_true, decide_eq_true_eq] at h; have := HKI.out; omega))
      go_wp2_with (first
       | ((with_reducible refine atS 57 ?_); go_must (refine wl_ex rfl (exec_loadEn _ rfl _ _ X HXO.out rfl HXR.out) ?_))
       | ((with_reducible refine atT 4 ?_); go_must (refine store_new (vs := enL X) (size67 HXO.out) (enL_one X) (by rw [enL_len HXO.out]; rfl) rfl _ _ rfl rfl rfl ?_); intro W4 hk4 hb4 hs4; have HBW := thn HB hb4; have HRW := Lib.hid (HR.out.below hb4); have c0 := HE0.out _ _ hk4; have c1 := HE1.out _ _ hk4; have c66 := HE66.out _ _ hk4; generalize wr.heap.size = g4 at hk4 hs4 c0 c1 c66 ⊢; clear hk4 hb4 hs4))
      go_ret
      exact HFF.out (by rw [HQ.out, HZ4.out]; simp) _ HBW.out
     by_cases k2 : 3 < ki
     ·have k1n : decide (ki < 1) = false := decide_eq_false k1
      have HZ4 := Lib.hid (ent_bad HF4.out HXM.out (fun h => by unfold entF at h; simp only [Bool.and_eq_true, decide_eq_true_eq] at h; have := HKI.out; omega))
      go_wp2_with (first
       | ((with_reducible refine atS 57 ?_); go_must (refine wl_ex rfl (exec_loadEn _ rfl _ _ X HXO.out rfl HXR.out) ?_))
       | ((with_reducible refine atT 4 ?_); go_must (refine store_new (vs := enL X) (size67 HXO.out) (enL_one X) (by rw [enL_len HXO.out]; rfl) rfl _ _ rfl rfl rfl ?_); intro W4 hk4 hb4 hs4; have HBW := thn HB hb4; have HRW := Lib.hid (HR.out.below hb4); have c0 := HE0.out _ _ hk4; have c1 := HE1.out _ _ hk4; have c66 := HE66.out _ _ hk4; generalize wr.heap.size = g4 at hk4 hs4 c0 c1 c66 ⊢; clear hk4 hb4 hs4))
      go_ret
      exact HFF.out (by rw [HQ.out, HZ4.out]; simp) _ HBW.out
     by_cases k3 : 32 < (pn.size : Int)
     ·have k3n : decide (32 < pn.size) = true := decide_eq_true (by omega)
      have k1n : decide (ki < 1) = false := decide_eq_false k1
      have k2n : decide (3 < ki) = false := decide_eq_false k2
      have HZ4 := Lib.hid (ent_bad HF4.out HXM.out (fun h => by unfold entF at h; simp only [Bool.and_eq_true, decide_eq_true_eq] at h; have := HPS.out; omega))
      go_wp2_with (first
       | ((with_reducible refine atS 57 ?_); go_must (refine wl_ex rfl (exec_loadEn _ rfl _ _ X HXO.out rfl HXR.out) ?_))
       | ((with_reducible refine atT 4 ?_); go_must (refine store_new (vs := enL X) (size67 HXO.out) (enL_one X) (by rw [enL_len HXO.out]; rfl) rfl _ _ rfl rfl rfl ?_); intro W4 hk4 hb4 hs4; have HBW := thn HB hb4; have HRW := Lib.hid (HR.out.below hb4); have c0 := HE0.out _ _ hk4; have c1 := HE1.out _ _ hk4; have c66 := HE66.out _ _ hk4; generalize wr.heap.size = g4 at hk4 hs4 c0 c1 c66 ⊢; clear hk4 hb4 hs4))
      go_ret
      exact HFF.out (by rw [HQ.out, HZ4.out]; simp) _ HBW.out
     have k1n : decide (ki < 1) = false := decide_eq_false k1
     have k2n : decide (3 < ki) = false := decide_eq_false k2
     have k3n : decide (32 < pn.size) = false := decide_eq_false (by omega)
     cases mm
     ·have HZ4 := Lib.hid (ent_bad HF4.out HXM.out (fun h => by unfold entF at h; simp only [Bool.and_eq_true, decide_eq_true_eq] at h; have := h.2; rw [HME.out] at this; cases this))
      go_wp2_with (first
       | ((with_reducible refine atS 57 ?_); go_must (refine wl_ex rfl (exec_loadEn _ rfl _ _ X HXO.out rfl HXR.out) ?_))
       | ((with_reducible refine atT 4 ?_); go_must (refine store_new (vs := enL X) (size67 HXO.out) (enL_one X) (by rw [enL_len HXO.out]; rfl) rfl _ _ rfl rfl rfl ?_); intro W4 hk4 hb4 hs4; have HBW := thn HB hb4; have HRW := Lib.hid (HR.out.below hb4); have c0 := HE0.out _ _ hk4; have c1 := HE1.out _ _ hk4; have c66 := HE66.out _ _ hk4; generalize wr.heap.size = g4 at hk4 hs4 c0 c1 c66 ⊢; clear hk4 hb4 hs4)
       | (go_at_call 38; go_must (refine (HNM.out _).mono ?_); rintro e w6 ⟨rfl, hb6⟩; have HX1 := thn HBW hb6; have HRX := Lib.hid (HRW.out.below hb6); clear hb6))
      go_ret
      exact HFF.out (by rw [HQ.out, HZ4.out]; simp) _ HX1.out
     ·have HK := Lib.hid (show entF X = true by
       unfold entF
       rw [HME.out, decide_eq_true (show 1 ≤ X.upd.kind by have := HKI.out; omega), decide_eq_true (show X.upd.kind ≤ 3 by have := HKI.out; omega), decide_eq_true (show X.upd.name.length ≤ 32 by have := HPS.out; omega)]
       rfl)
      clear k1 k2
      go_wp2_with (first
       | ((with_reducible refine atS 57 ?_); go_must (refine wl_ex rfl (exec_loadEn _ rfl _ _ X HXO.out rfl HXR.out) ?_))
       | ((with_reducible refine atT 4 ?_); go_must (refine store_new (vs := enL X) (size67 HXO.out) (enL_one X) (by rw [enL_len HXO.out]; rfl) rfl _ _ rfl rfl rfl ?_); intro W4 hk4 hb4 hs4; have HBW := thn HB hb4; have HRW := Lib.hid (HR.out.below hb4); have c0 := HE0.out _ _ hk4; have c1 := HE1.out _ _ hk4; have c66 := HE66.out _ _ hk4; generalize wr.heap.size = g4 at hk4 hs4 c0 c1 c66 ⊢; clear hk4 hb4 hs4)
       | (go_at_call 38; go_must (refine (HNM.out _).mono ?_); rintro e w6 ⟨rfl, hb6⟩; have HX1 := thn HBW hb6; have HRX := Lib.hid (HRW.out.below hb6); clear hb6))
      go_roundg (S.nl - (i + 1))
      case measure => have := HG.out; have := HI.out; omega
      case rel => exact ⟨i + 1, by go_num, by have := HI.out; omega, HX1, HRX, Lib.hid (fun j hj => by
       rcases Nat.lt_or_ge j i with h1 | h1
       ·exact HOK.out j h1
       ·obtain rfl : j = i := by omega
        rw [← HXE.out]; exact HK.out)⟩
    ·have hin : S.nl = i := by omega
     have HZ4 : Hid (q4 = true) := Lib.hid (HQ4.out.2 ⟨by have := HLL.out; have := HLI.out; omega, fun e he => by
      obtain ⟨j, hj, rfl⟩ := List.mem_iff_getElem.1 he
      have := HOK.out j (by have := HLL.out; omega)
      have e2 : gd r.log j = r.log[j] := by unfold gd; simp [hj]
      rwa [e2] at this⟩)
     clear hg
     go_wp2
     go_ret
     exact ⟨boolR (by rw [HQ.out, HH.out, HZ4.out]; rfl), HB.out⟩
 ·have hpe := HPE.out
  have hpn := HPN.out
  cases z
  ·go_enter Tryd.func15, Tryd.ntmps15
   go_wp2_with (first
    | (go_at_call 35; (with_reducible refine (N1.out _ HB0.out).mono ?_); rintro e w2 ⟨rfl, hb2⟩; have HB2 := thn HB0 hb2; have HR2 := Lib.hid (HR0.out.below hb2); have c1 := HC1.out _ HR2.out; clear hb2)
    | (go_at_call 35; (with_reducible refine (N2.out _ HB2.out).mono ?_); rintro e w3 ⟨rfl, hb3⟩; have HB3 := thn HB2 hb3; have HR3 := Lib.hid (HR2.out.below hb3); have c35 := HC35.out _ HR3.out; have c2 := HC2.out _ HR3.out; clear hb3)
    | ((with_reducible refine atS 26 ?_); go_must (refine wl_ex rfl (exec_loadId _ rfl w.heap.size 3 r.at_ HA.out rfl (rf_at HR3.out)) ?_))
    | (go_at_call 36; go_must (refine (HZ.out _).mono ?_); rintro e w5 ⟨rfl, hb⟩; have HB5 := thn HB3 hb; have HR5 := Lib.hid (HR3.out.below hb); have c35 := HC35.out _ HR5.out; have c2 := HC2.out _ HR5.out; clear hb))
   clear c2
   have HBq := HB5
   have HRq := HR5
   go_loopg [3] S.nl (fun g v3 W => ∃ i : Nat, v3 = .int .i64 i ∧ g + i = S.nl ∧ Hid (Below w.heap.size w W) ∧ Hid (RowAt W w.heap.size RREf (rfL S r.head r.at_)) ∧ Hid (∀ j, j < i → entF (gd r.log j) = true))
   case atStart => exact ⟨0, rfl, rfl, HBq, HRq, Lib.hid (fun j hj => absurd hj (Nat.not_lt_zero _))⟩
   case round =>
    clear c35
    obtain ⟨i, rfl, hg, HB, HR, HOK⟩ := hrel
    have HG := Lib.hid hg
    have hi0 : (0 : Int) ≤ (i : Int) := by omega
    have hiI : (i : Int) ≤ (S.nl : Int) := by omega
    have c35 := HC35.out _ HR.out
    by_cases hi : (i : Int) < (S.nl : Int)
    ·have hin : i < S.nl := by omega
     have HI := Lib.hid hin
     have HLW := Lib.hid (HLG.out _ HB.out)
     obtain ⟨b, o, hab⟩ := HLW.out.some_ (by omega)
     obtain ⟨X, hX⟩ : ∃ X, X = gd r.log i := ⟨_, rfl⟩
     have HXO : Hid (UpOk X.upd) := Lib.hid (hX ▸ HLW.out.ok hin)
     have HXE := Lib.hid hX
     have HXM : Hid (X ∈ r.log) := Lib.hid (by rw [hX]; exact gd_mem (by rw [HLL.out]; exact hin))
     have HXR : Hid (wr.rangeAt b (o + i * 67) (enL X)) := Lib.hid (by have h := HLW.out; rw [hab] at h; exact hX ▸ h.at_ i hin)
     rw [hab] at c35
     obtain ⟨ki, hki⟩ : ∃ ki : Int, (X.upd.kind : Int) = ki := ⟨_, rfl⟩
     have HKI := Lib.hid hki
     obtain ⟨pn, hpn⟩ : ∃ pn, strB X.upd.name = pn := ⟨_, rfl⟩
     have hps : pn.size = X.upd.name.length := by rw [← hpn, strB_size]
     have hpM : (pn.size : Int) ≤ 100000 := by rw [hps]; have := (HSS.out X HXM.out).1; omega
     have HPS := Lib.hid hps
     obtain ⟨t, ht⟩ : ∃ t, strB X.note = t := ⟨_, rfl⟩
     obtain ⟨mm, hmm⟩ : ∃ mm, noteF X.note = mm := ⟨_, rfl⟩
     have HNM := Lib.hid (fun W => ht ▸ refNote_is20 X.note mm hmm (HSS.out X HXM.out).2 W)
     have HME := Lib.hid hmm
     have HE0 := Lib.hid (fun W g (hh : RowAt W g EEf (enL X)) => (hki ▸ hh.cell 0 rfl : W.cell? ⟨g, 0, none⟩ = some (.int .u8 ki)))
     have HE1 := Lib.hid (fun W g (hh : RowAt W g EEf (enL X)) => (hpn ▸ hh.cell 1 rfl : W.cell? ⟨g, 1, none⟩ = some (.string pn)))
     have HE66 := Lib.hid (fun W g (hh : RowAt W g EEf (enL X)) => (ht ▸ en_note HXO.out hh : W.cell? ⟨g, 66, none⟩ = some (.string t)))
     clear hg hX hki hpn hps ht hmm hab HLW
     by_cases k1 : ki < 1
     ·have HZ4 := Lib.hid (ent_bad HF4.out HXM.out (fun h => by unfold entF at h; simp only [Bool.and_eq_true, decide_eq_true_eq] at h; have := HKI.out; omega))
      go_wp2_with (first
       | ((with_reducible refine atS 57 ?_); go_must (refine wl_ex rfl (exec_loadEn _ rfl _ _ X HXO.out rfl HXR.out) ?_))
       | ((with_reducible refine atT 4 ?_); go_must (refine store_new (vs := enL X) (size67 HXO.out) (enL_one X) (by rw [enL_len HXO.out]; rfl) rfl _ _ rfl rfl rfl ?_); intro W4 hk4 hb4 hs4; have HBW := thn HB hb4; have HRW := Lib.hid (HR.out.below hb4); have c0 := HE0.out _ _ hk4; have c1 := HE1.out _ _ hk4; have c66 := HE66.out _ _ hk4; generalize wr.heap.size = g4 at hk4 hs4 c0 c1 c66 ⊢; clear hk4 hb4 hs4))
      go_ret
      exact HFF.out (by rw [HQ.out, HZ4.out]; simp) _ HBW.out
     by_cases k2 : 3 < ki
     ·have k1n : decide (ki < 1) = false := decide_eq_false k1
      have HZ4 := Lib.hid (ent_bad HF4.out HXM.out (fun h => by unfold entF at h; simp only [Bool.and_eq_true, decide_eq_true_eq] at h; have := HKI.out; omega))
      go_wp2_with (first
       | ((with_reducible refine atS 57 ?_); go_must (refine wl_ex rfl (exec_loadEn _ rfl _ _ X HXO.out rfl HXR.out) ?_))
       | ((with_reducible refine atT 4 ?_); go_must (refine store_new (vs := enL X) (size67 HXO.out) (enL_one X) (by rw [enL_len HXO.out]; rfl) rfl _ _ rfl rfl rfl ?_); intro W4 hk4 hb4 hs4; have HBW := thn HB hb4; have HRW := Lib.hid (HR.out.below hb4); have c0 := HE0.out _ _ hk4; have c1 := HE1.out _ _ hk4; have c66 := HE66.out _ _ hk4; generalize wr.heap.size = g4 at hk4 hs4 c0 c1 c66 ⊢; clear hk4 hb4 hs4))
      go_ret
      exact HFF.out (by rw [HQ.out, HZ4.out]; simp) _ HBW.out
     by_cases k3 : 32 < (pn.size : Int)
     ·have k3n : decide (32 < pn.size) = true := decide_eq_true (by omega)
      have k1n : decide (ki < 1) = false := decide_eq_false k1
      have k2n : decide (3 < ki) = false := decide_eq_false k2
      have HZ4 := Lib.hid (ent_bad HF4.out HXM.out (fun h => by unfold entF at h; simp only [Bool.and_eq_true, decide_eq_true_eq] at h; have := HPS.out; omega))
      go_wp2_with (first
       | ((with_reducible refine atS 57 ?_); go_must (refine wl_ex rfl (exec_loadEn _ rfl _ _ X HXO.out rfl HXR.out) ?_))
       | ((with_reducible refine atT 4 ?_); go_must (refine store_new (vs := enL X) (size67 HXO.out) (enL_one X) (by rw [enL_len HXO.out]; rfl) rfl _ _ rfl rfl rfl ?_); intro W4 hk4 hb4 hs4; have HBW := thn HB hb4; have HRW := Lib.hid (HR.out.below hb4); have c0 := HE0.out _ _ hk4; have c1 := HE1.out _ _ hk4; have c66 := HE66.out _ _ hk4; generalize wr.heap.size = g4 at hk4 hs4 c0 c1 c66 ⊢; clear hk4 hb4 hs4))
      go_ret
      exact HFF.out (by rw [HQ.out, HZ4.out]; simp) _ HBW.out
     have k1n : decide (ki < 1) = false := decide_eq_false k1
     have k2n : decide (3 < ki) = false := decide_eq_false k2
     have k3n : decide (32 < pn.size) = false := decide_eq_false (by omega)
     cases mm
     ·have HZ4 := Lib.hid (ent_bad HF4.out HXM.out (fun h => by unfold entF at h; simp only [Bool.and_eq_true, decide_eq_true_eq] at h; have := h.2; rw [HME.out] at this; cases this))
      go_wp2_with (first
       | ((with_reducible refine atS 57 ?_); go_must (refine wl_ex rfl (exec_loadEn _ rfl _ _ X HXO.out rfl HXR.out) ?_))
       | ((with_reducible refine atT 4 ?_); go_must (refine store_new (vs := enL X) (size67 HXO.out) (enL_one X) (by rw [enL_len HXO.out]; rfl) rfl _ _ rfl rfl rfl ?_); intro W4 hk4 hb4 hs4; have HBW := thn HB hb4; have HRW := Lib.hid (HR.out.below hb4); have c0 := HE0.out _ _ hk4; have c1 := HE1.out _ _ hk4; have c66 := HE66.out _ _ hk4; generalize wr.heap.size = g4 at hk4 hs4 c0 c1 c66 ⊢; clear hk4 hb4 hs4)
       | (go_at_call 38; go_must (refine (HNM.out _).mono ?_); rintro e w6 ⟨rfl, hb6⟩; have HX1 := thn HBW hb6; have HRX := Lib.hid (HRW.out.below hb6); clear hb6))
      go_ret
      exact HFF.out (by rw [HQ.out, HZ4.out]; simp) _ HX1.out
     ·have HK := Lib.hid (show entF X = true by
       unfold entF
       rw [HME.out, decide_eq_true (show 1 ≤ X.upd.kind by have := HKI.out; omega), decide_eq_true (show X.upd.kind ≤ 3 by have := HKI.out; omega), decide_eq_true (show X.upd.name.length ≤ 32 by have := HPS.out; omega)]
       rfl)
      clear k1 k2
      go_wp2_with (first
       | ((with_reducible refine atS 57 ?_); go_must (refine wl_ex rfl (exec_loadEn _ rfl _ _ X HXO.out rfl HXR.out) ?_))
       | ((with_reducible refine atT 4 ?_); go_must (refine store_new (vs := enL X) (size67 HXO.out) (enL_one X) (by rw [enL_len HXO.out]; rfl) rfl _ _ rfl rfl rfl ?_); intro W4 hk4 hb4 hs4; have HBW := thn HB hb4; have HRW := Lib.hid (HR.out.below hb4); have c0 := HE0.out _ _ hk4; have c1 := HE1.out _ _ hk4; have c66 := HE66.out _ _ hk4; generalize wr.heap.size = g4 at hk4 hs4 c0 c1 c66 ⊢; clear hk4 hb4 hs4)
       | (go_at_call 38; go_must (refine (HNM.out _).mono ?_); rintro e w6 ⟨rfl, hb6⟩; have HX1 := thn HBW hb6; have HRX := Lib.hid (HRW.out.below hb6); clear hb6))
      go_roundg (S.nl - (i + 1))
      case measure => have := HG.out; have := HI.out; omega
      case rel => exact ⟨i + 1, by go_num, by have := HI.out; omega, HX1, HRX, Lib.hid (fun j hj => by
       rcases Nat.lt_or_ge j i with h1 | h1
       ·exact HOK.out j h1
       ·obtain rfl : j = i := by omega
        rw [← HXE.out]; exact HK.out)⟩
    ·have hin : S.nl = i := by omega
     have HZ4 : Hid (q4 = true) := Lib.hid (HQ4.out.2 ⟨by have := HLL.out; have := HLI.out; omega, fun e he => by
      obtain ⟨j, hj, rfl⟩ := List.mem_iff_getElem.1 he
      have := HOK.out j (by have := HLL.out; omega)
      have e2 : gd r.log j = r.log[j] := by unfold gd; simp [hj]
      rwa [e2] at this⟩)
     clear hg
     go_wp2
     go_ret
     exact ⟨boolR (by rw [HQ.out, HH.out, HZ4.out]; rfl), HB.out⟩
  ·go_enter Tryd.func15, Tryd.ntmps15
   go_wp2_with (first
    | (go_at_call 35; (with_reducible refine (N1.out _ HB0.out).mono ?_); rintro e w2 ⟨rfl, hb2⟩; have HB2 := thn HB0 hb2; have HR2 := Lib.hid (HR0.out.below hb2); have c1 := HC1.out _ HR2.out; clear hb2)
    | (go_at_call 35; (with_reducible refine (N2.out _ HB2.out).mono ?_); rintro e w3 ⟨rfl, hb3⟩; have HB3 := thn HB2 hb3; have HR3 := Lib.hid (HR2.out.below hb3); have c35 := HC35.out _ HR3.out; have c2 := HC2.out _ HR3.out; clear hb3)
    | ((with_reducible refine atS 26 ?_); go_must (refine wl_ex rfl (exec_loadId _ rfl w.heap.size 3 r.at_ HA.out rfl (rf_at HR3.out)) ?_))
    | (go_at_call 36; go_must (refine (HZ.out _).mono ?_); rintro e w5 ⟨rfl, hb⟩; have HB5 := thn HB3 hb; have HR5 := Lib.hid (HR3.out.below hb); have c35 := HC35.out _ HR5.out; have c2 := HC2.out _ HR5.out; clear hb))
   go_ret
   exact HFF.out (by rw [HQ.out, HH.out]; rfl) _ HB5.out
end Go.Proofs.YthihmlojdopmfaaDoor
