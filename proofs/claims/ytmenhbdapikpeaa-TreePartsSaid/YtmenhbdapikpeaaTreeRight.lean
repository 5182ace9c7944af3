/-
  What elements may be, plainly; the walk of the document's Right.
-/
import Derived.Test.YtmenhbdapikpeaaTreeTold
import Derived.Test.YtmenhbdapikpeaaTreeRefM
import Derived.Test.YtmenhbdapikpeaaKeyEqM
import Derived.Test.YtmenhbdapikpeaaUtfEnc0
import Derived.Test.YtmenhbdapikpeaaOrdKey
import Derived.Deep.QuietTactic
import Derived.BigQuiet
namespace Go.Proofs.Ytmenhbdapikpeaa
open Go.RowKit

/-- May elements be? -/
def RightT (L : List NodeV) : Prop := (∀ i, i < L.length → Lib.validRune (nd L i).r = true) ∧ TreeP L
/-- One element, seen by itself: its parent. -/
def ParOk (L : List NodeV) (i : Nat) : Prop := (nd L i).p = -1 ∨ ∃ j : Nat, (nd L i).p = (j : Int) ∧ j < L.length ∧ keyF (nd L j).k (nd L i).k < 0
/-- The first so many may be. -/
def RtTo (L : List NodeV) (m : Nat) : Prop := ∀ i, i < m → Lib.validRune (nd L i).r = true ∧ ParOk L i ∧ ∀ k, k < i → keyF (nd L k).k (nd L i).k ≠ 0
theorem rtTo_zero (L : List NodeV) : RtTo L 0 := fun i hi => by omega
theorem RtTo.next {L : List NodeV} {m : Nat} (h : RtTo L m) (h1 : Lib.validRune (nd L m).r = true) (h2 : ParOk L m) (h3 : ∀ k, k < m → keyF (nd L k).k (nd L m).k ≠ 0) : RtTo L (m + 1) := fun i hi => by
  rcases Nat.lt_or_ge i m with h4 | h4
  · exact h i h4
  · obtain rfl : i = m := by omega
    exact ⟨h1, h2, h3⟩
theorem RtTo.all {L : List NodeV} (h : RtTo L L.length) : RightT L := by
  refine ⟨fun i hi => (h i hi).1, ⟨fun i hi => (h i hi).2.1, fun i j hi hj e => ?_⟩⟩
  rcases Nat.lt_trichotomy i j with h1 | h1 | h1
  · exact absurd (by rw [e]; exact keyF_self _) ((h j hj).2.2 i h1)
  · exact h1
  · exact absurd (by rw [e]; exact keyF_self _) ((h i hi).2.2 j h1)
theorem RightT.to {L : List NodeV} (h : RightT L) : RtTo L L.length := fun i hi => ⟨h.1 i hi, h.2.par i hi, fun k hk e => by have := h.2.key k i (by omega) hi (keyF_eq e); omega⟩
theorem RightT.no_rune {L : List NodeV} {i : Nat} (hi : i < L.length) (h : Lib.validRune (nd L i).r = false) : ¬ RightT L := fun h2 => by have := h2.1 i hi; rw [h] at this; cases this
theorem RightT.no_par {L : List NodeV} {i : Nat} (hi : i < L.length) (h : ¬ ParOk L i) : ¬ RightT L := fun h2 => h (h2.2.par i hi)
theorem RightT.no_key {L : List NodeV} {i k : Nat} (hi : i < L.length) (hk : k < i) (h : keyF (nd L k).k (nd L i).k = 0) : ¬ RightT L := fun h2 => by have := h2.2.key k i (by omega) hi (keyF_eq h); omega

theorem refMay_b (r : Int) (b : Bool) (h : Lib.validRune r = b) (w : World) : Calls Try.prog 21 #[.int .i32 r] w fun e w' => e = .returned (.bool b) ∧ w = w' := by
  subst h; exact refMay_any r w
theorem refKeys_is (a b : KeyV) (z : Int) (hz : keyF a b = z) (w : World) (ha : a.c.length = 32) (hb : b.c.length = 32) : Calls Try.prog 22 #[.agg (keyC a), .agg (keyC b)] w fun e w' => e = .returned (.int .i64 z) ∧ Below w.heap.size w w' := by
  subst hz; exact refKeys_any a b w ha hb

set_option maxRecDepth 100000 in
set_option maxHeartbeats 4000000 in
theorem refRight_any (a : Option Addr) (n c : Nat) (L : List NodeV) (w : World) (h : NodesAt w a n c L) (hn : n ≤ 1000) (q : Bool) (hq : q = true ↔ RightT L) :
    Calls Try.prog 9 #[.slice a n c] w fun e w' => e = .returned (.bool q) ∧ Below w.heap.size w w' := by
  have HL := Lib.hid h.1
  have HN := Lib.hid h
  have hnI : (n : Int) ≤ 1000 := by omega
  have HM := Lib.hid hn
  have HQ := Lib.hid hq
  have QF : ∀ {P : Prop}, ¬ RightT L → q = false := fun h => by
    cases q
    · rfl
    · exact absurd (HQ.out.1 rfl) h
  have HF := Lib.hid (fun (h : ¬ RightT L) => (QF (P := True) h))
  clear h hn hq QF
  go_enter Try.func9, Try.ntmps9
  go_wp2
  go_loopg [3] n (fun g v3 W => ∃ i : Nat, Below w.heap.size w W ∧ v3 = .int .i64 i ∧ g + i = n ∧ Hid (RtTo L i))
  case atStart => exact ⟨0, Below.refl _ _, rfl, rfl, Lib.hid (rtTo_zero L)⟩
  case round =>
    obtain ⟨i, hbw, rfl, hg, HR⟩ := hrel
    have HG := Lib.hid hg
    have HB := Lib.hid hbw
    have hi0 : (0 : Int) ≤ (i : Int) := by omega
    have hiI : (i : Int) ≤ (n : Int) := by omega
    by_cases hi : (i : Int) < (n : Int)
    · have hin : i < n := by omega
      have HI := Lib.hid hin
      obtain ⟨b, o, rfl⟩ := HN.out.some_ (by omega)
      have HNr := Lib.hid (HN.out.below hbw)
      have cp := HNr.out.par i hin
      have cr := HNr.out.run i hin
      have HX := Lib.hid (HN.out.ok hin).1
      obtain ⟨p, hp⟩ : ∃ p, p = (nd L i).p := ⟨_, rfl⟩
      obtain ⟨r, hr⟩ : ∃ r, r = (nd L i).r := ⟨_, rfl⟩
      rw [← hp] at cp
      rw [← hr] at cr
      have HP := Lib.hid hp
      have HRr := Lib.hid hr
      clear hg hp hr
      by_cases h1 : p < -1
      · have HE := Lib.hid (HF.out (RightT.no_par (i := i) (by rw [HL.out]; exact hin) (by rintro (h | ⟨j, h, _⟩) <;> (rw [← HP.out] at h; omega))))
        go_wp2
        go_ret
        exact ⟨by rw [HE.out]; rfl, HB.out⟩
      by_cases h2 : (n : Int) ≤ p
      · have HE := Lib.hid (HF.out (RightT.no_par (i := i) (by rw [HL.out]; exact hin) (by rintro (h | ⟨j, h, h3, _⟩) <;> (rw [← HP.out] at h; (try rw [HL.out] at h3); omega))))
        have d1 : decide (p < -1) = false := decide_eq_false h1
        clear h1
        go_wp2
        go_ret
        exact ⟨by rw [HE.out]; rfl, HB.out⟩
      have d1 : decide (p < -1) = false := decide_eq_false h1
      have d2 : decide ((n : Int) ≤ p) = false := decide_eq_false h2
      cases hv : Lib.validRune r
      · have HE := Lib.hid (HF.out (RightT.no_rune (i := i) (by rw [HL.out]; exact hin) (by rw [← HRr.out]; exact hv)))
        have MA := Lib.hid (fun W => refMay_b r false hv W)
        clear h1 h2 hv
        go_wp2_with (go_at_call 21; (with_reducible refine (MA.out _).mono ?_); rintro e w1 ⟨rfl, rfl⟩)
        go_ret
        exact ⟨by rw [HE.out]; rfl, HB.out⟩
      · have MA := Lib.hid (fun W => refMay_b r true hv W)
        have HV := Lib.hid hv
        clear hv
        by_cases hm : p = -1
        · subst hm
          have HPO : Hid (ParOk L i) := Lib.hid (.inl HP.out.symm)
          clear h1 h2
          go_wp2_with (go_at_call 21; (with_reducible refine (MA.out _).mono ?_); rintro e w1 ⟨rfl, rfl⟩)
          go_quiet (fail)
          have HB2 := Lib.hid (below_drewK HB.out nq)
          generalize wr.drewN nq = w9 at HB2 ⊢
          go_wp2
          go_loopg [5] i (fun g v5 W => ∃ k : Nat, Below w.heap.size w W ∧ v5 = .int .i64 k ∧ g + k = i ∧ Hid (∀ k', k' < k → keyF (nd L k').k (nd L i).k ≠ 0))
          case atStart => exact ⟨0, HB2.out, rfl, rfl, Lib.hid (fun k' h => by omega)⟩
          case round =>
            obtain ⟨k, hbk, rfl, hgk, HK⟩ := hrel
            have HGk := Lib.hid hgk
            have HBk := Lib.hid hbk
            have hk0 : (0 : Int) ≤ (k : Int) := by omega
            have hkI : (k : Int) ≤ (i : Int) := by omega
            by_cases hk : (k : Int) < (i : Int)
            · have hki : k < i := by omega
              have hkn : k < n := by have := HI.out; omega
              have hknI : (k : Int) < (n : Int) := by omega
              have HKI := Lib.hid hki
              have HNk := Lib.hid (HN.out.below hbk.drew)
              have HCa := Lib.hid (HNk.out.key k hkn)
              have HCb := Lib.hid (HNk.out.key i HI.out)
              have HXk := Lib.hid (HN.out.ok hkn).1
              clear hgk
              by_cases he : keyF (nd L k).k (nd L i).k = 0
              · have HE := Lib.hid (HF.out (RightT.no_key (i := i) (by rw [HL.out]; exact HI.out) hki he))
                have HQ2 := Lib.hid (show true = decide (keyF (nd L k).k (nd L i).k = 0) from (decide_eq_true he).symm)
                clear he
                go_wp2
                refine wp_region_still_lit (by kernel_rfl) (by kernel_rfl) ?_
                iterate 4 still_step
                refine still_w (by rfl) (exec_loadKey _ rfl _ _ _ HXk.out rfl HCa.out) ?_
                simp only [Act.put, List.setIfInBounds_toArray, List.set_cons_zero, List.set_cons_succ]
                iterate 4 still_step
                refine still_w (by rfl) (exec_loadKey _ rfl _ _ _ HX.out rfl HCb.out) ?_
                simp only [Act.put, List.setIfInBounds_toArray, List.set_cons_zero, List.set_cons_succ]
                refine still_w (by rfl) (exec_eqlKey _ _ _ rfl _ _ HXk.out HX.out rfl rfl true HQ2.out) ?_
                simp only [Act.put, List.setIfInBounds_toArray, List.set_cons_zero, List.set_cons_succ]
                refine wpStill_nil ?_
                change Exit.then _ _ _ _ wr.drew
                have HBd := Lib.hid HBk.out.drew
                generalize wr.drew = w2 at HBd ⊢
                go_wp2
                go_ret
                exact ⟨by rw [HE.out]; rfl, HBd.out⟩
              · have HQ2 := Lib.hid (show false = decide (keyF (nd L k).k (nd L i).k = 0) from (decide_eq_false he).symm)
                have HN2 : Hid (∀ k', k' < k + 1 → keyF (nd L k').k (nd L i).k ≠ 0) := Lib.hid (fun k' h => by
                  rcases Nat.lt_or_ge k' k with h2 | h2
                  · exact HK.out k' h2
                  · obtain rfl : k' = k := by omega
                    exact he)
                clear he
                go_wp2
                refine wp_region_still_lit (by kernel_rfl) (by kernel_rfl) ?_
                iterate 4 still_step
                refine still_w (by rfl) (exec_loadKey _ rfl _ _ _ HXk.out rfl HCa.out) ?_
                simp only [Act.put, List.setIfInBounds_toArray, List.set_cons_zero, List.set_cons_succ]
                iterate 4 still_step
                refine still_w (by rfl) (exec_loadKey _ rfl _ _ _ HX.out rfl HCb.out) ?_
                simp only [Act.put, List.setIfInBounds_toArray, List.set_cons_zero, List.set_cons_succ]
                refine still_w (by rfl) (exec_eqlKey _ _ _ rfl _ _ HXk.out HX.out rfl rfl false HQ2.out) ?_
                simp only [Act.put, List.setIfInBounds_toArray, List.set_cons_zero, List.set_cons_succ]
                refine wpStill_nil ?_
                change Exit.then _ _ _ _ wr.drew
                have HBd := Lib.hid HBk.out.drew
                generalize wr.drew = w2 at HBd ⊢
                go_wp2
                go_roundg (i - (k + 1))
                case measure => have := HGk.out; have := HKI.out; omega
                case rel => exact ⟨k + 1, HBd.out, by go_num, by have := HKI.out; omega, HN2⟩
            · have HR2 : Hid (RtTo L (i + 1)) := Lib.hid (HR.out.next (by rw [← HRr.out]; exact HV.out) HPO.out (fun k' h => HK.out k' (by omega)))
              clear hgk
              go_wp2
              go_roundg (n - (i + 1))
              case measure => have := HG.out; have := HI.out; omega
              case rel => exact ⟨i + 1, HBk.out, by go_num, by have := HI.out; omega, HR2⟩
        · obtain ⟨m, rfl⟩ : ∃ m : Nat, p = (m : Int) := ⟨p.toNat, by omega⟩
          have hmn : m < n := by omega
          have hm0 : (0 : Int) ≤ (m : Int) := by omega
          have hmI : (m : Int) < (n : Int) := by omega
          have HMN := Lib.hid hmn
          have HNm := Lib.hid (HN.out.below hbw.drew)
          have HCm := Lib.hid (HNm.out.key m hmn)
          have HCi := Lib.hid (HNm.out.key i HI.out)
          have HXm := Lib.hid (HN.out.ok hmn).1
          obtain ⟨z, hz⟩ : ∃ z, z = keyF (nd L m).k (nd L i).k := ⟨_, rfl⟩
          have HZ := Lib.hid hz
          have KA := Lib.hid (fun W => refKeys_is _ _ z hz.symm W HXm.out HX.out)
          clear h1 h2 hm hz
          by_cases hz0 : 0 ≤ z
          · have HE := Lib.hid (HF.out (RightT.no_par (i := i) (by rw [HL.out]; exact HI.out) (by
              rintro (h | ⟨j, h, h3, h4⟩)
              · rw [← HP.out] at h; omega
              · rw [← HP.out] at h
                obtain rfl : j = m := by omega
                rw [← HZ.out] at h4; omega)))
            go_wp2_with (go_at_call 21; (with_reducible refine (MA.out _).mono ?_); rintro e w1 ⟨rfl, rfl⟩)
            refine wp_region_still_tail 13 (by kernel_rfl) (by kernel_rfl) ?_
            simp only [List.take_succ_cons, List.take_zero, List.drop_succ_cons, List.drop_zero]
            iterate 7 still_step
            refine still_w (by rfl) (exec_loadKey _ rfl _ _ _ HXm.out rfl HCm.out) ?_
            simp only [Act.put, List.setIfInBounds_toArray, List.set_cons_zero, List.set_cons_succ]
            iterate 4 still_step
            refine still_w (by rfl) (exec_loadKey _ rfl _ _ _ HX.out rfl HCi.out) ?_
            simp only [Act.put, List.setIfInBounds_toArray, List.set_cons_zero, List.set_cons_succ]
            refine wpStill_nil ?_
            change wpList _ _ _ _ _ wr.drew
            have HB2 := Lib.hid HB.out.drew
            generalize wr.drew = w2 at HB2 ⊢
            go_wp2_with (go_at_call 22; (with_reducible refine (KA.out _).mono ?_); rintro e w3 ⟨rfl, hb3⟩; have HB3 := Lib.hid (HB2.out.trans (hb3.mono HB2.out.size)); clear hb3)
            go_ret
            exact ⟨by rw [HE.out]; rfl, HB3.out⟩
          · have HPO : Hid (ParOk L i) := Lib.hid (.inr ⟨m, HP.out.symm, by rw [HL.out]; exact HMN.out, by rw [← HZ.out]; omega⟩)
            have dz : decide (0 ≤ z) = false := decide_eq_false hz0
            clear hz0
            go_wp2_with (go_at_call 21; (with_reducible refine (MA.out _).mono ?_); rintro e w1 ⟨rfl, rfl⟩)
            refine wp_region_still_tail 13 (by kernel_rfl) (by kernel_rfl) ?_
            simp only [List.take_succ_cons, List.take_zero, List.drop_succ_cons, List.drop_zero]
            iterate 7 still_step
            refine still_w (by rfl) (exec_loadKey _ rfl _ _ _ HXm.out rfl HCm.out) ?_
            simp only [Act.put, List.setIfInBounds_toArray, List.set_cons_zero, List.set_cons_succ]
            iterate 4 still_step
            refine still_w (by rfl) (exec_loadKey _ rfl _ _ _ HX.out rfl HCi.out) ?_
            simp only [Act.put, List.setIfInBounds_toArray, List.set_cons_zero, List.set_cons_succ]
            refine wpStill_nil ?_
            change wpList _ _ _ _ _ wr.drew
            have HB2 := Lib.hid HB.out.drew
            generalize wr.drew = w2 at HB2 ⊢
            go_wp2_with (go_at_call 22; (with_reducible refine (KA.out _).mono ?_); rintro e w3 ⟨rfl, hb3⟩; have HB3 := Lib.hid (HB2.out.trans (hb3.mono HB2.out.size)); clear hb3)
            go_loopg [5] i (fun g v5 W => ∃ k : Nat, Below w.heap.size w W ∧ v5 = .int .i64 k ∧ g + k = i ∧ Hid (∀ k', k' < k → keyF (nd L k').k (nd L i).k ≠ 0))
            case atStart => exact ⟨0, HB3.out, rfl, rfl, Lib.hid (fun k' h => by omega)⟩
            case round =>
              obtain ⟨k, hbk, rfl, hgk, HK⟩ := hrel
              have HGk := Lib.hid hgk
              have HBk := Lib.hid hbk
              have hk0 : (0 : Int) ≤ (k : Int) := by omega
              have hkI : (k : Int) ≤ (i : Int) := by omega
              by_cases hk : (k : Int) < (i : Int)
              · have hki : k < i := by omega
                have hkn : k < n := by have := HI.out; omega
                have hknI : (k : Int) < (n : Int) := by omega
                have HKI := Lib.hid hki
                have HNk := Lib.hid (HN.out.below hbk.drew)
                have HCa := Lib.hid (HNk.out.key k hkn)
                have HCb := Lib.hid (HNk.out.key i HI.out)
                have HXk := Lib.hid (HN.out.ok hkn).1
                clear hgk
                by_cases he : keyF (nd L k).k (nd L i).k = 0
                · have HE := Lib.hid (HF.out (RightT.no_key (i := i) (by rw [HL.out]; exact HI.out) hki he))
                  have HQ2 := Lib.hid (show true = decide (keyF (nd L k).k (nd L i).k = 0) from (decide_eq_true he).symm)
                  clear he
                  go_wp2
                  refine wp_region_still_lit (by kernel_rfl) (by kernel_rfl) ?_
                  iterate 4 still_step
                  refine still_w (by rfl) (exec_loadKey _ rfl _ _ _ HXk.out rfl HCa.out) ?_
                  simp only [Act.put, List.setIfInBounds_toArray, List.set_cons_zero, List.set_cons_succ]
                  iterate 4 still_step
                  refine still_w (by rfl) (exec_loadKey _ rfl _ _ _ HX.out rfl HCb.out) ?_
                  simp only [Act.put, List.setIfInBounds_toArray, List.set_cons_zero, List.set_cons_succ]
                  refine still_w (by rfl) (exec_eqlKey _ _ _ rfl _ _ HXk.out HX.out rfl rfl true HQ2.out) ?_
                  simp only [Act.put, List.setIfInBounds_toArray, List.set_cons_zero, List.set_cons_succ]
                  refine wpStill_nil ?_
                  change Exit.then _ _ _ _ wr.drew
                  have HBd := Lib.hid HBk.out.drew
                  generalize wr.drew = w2 at HBd ⊢
                  go_wp2
                  go_ret
                  exact ⟨by rw [HE.out]; rfl, HBd.out⟩
                · have HQ2 := Lib.hid (show false = decide (keyF (nd L k).k (nd L i).k = 0) from (decide_eq_false he).symm)
                  have HN2 : Hid (∀ k', k' < k + 1 → keyF (nd L k').k (nd L i).k ≠ 0) := Lib.hid (fun k' h => by
                    rcases Nat.lt_or_ge k' k with h2 | h2
                    · exact HK.out k' h2
                    · obtain rfl : k' = k := by omega
                      exact he)
                  clear he
                  go_wp2
                  refine wp_region_still_lit (by kernel_rfl) (by kernel_rfl) ?_
                  iterate 4 still_step
                  refine still_w (by rfl) (exec_loadKey _ rfl _ _ _ HXk.out rfl HCa.out) ?_
                  simp only [Act.put, List.setIfInBounds_toArray, List.set_cons_zero, List.set_cons_succ]
                  iterate 4 still_step
                  refine still_w (by rfl) (exec_loadKey _ rfl _ _ _ HX.out rfl HCb.out) ?_
                  simp only [Act.put, List.setIfInBounds_toArray, List.set_cons_zero, List.set_cons_succ]
                  refine still_w (by rfl) (exec_eqlKey _ _ _ rfl _ _ HXk.out HX.out rfl rfl false HQ2.out) ?_
                  simp only [Act.put, List.setIfInBounds_toArray, List.set_cons_zero, List.set_cons_succ]
                  refine wpStill_nil ?_
                  change Exit.then _ _ _ _ wr.drew
                  have HBd := Lib.hid HBk.out.drew
                  generalize wr.drew = w2 at HBd ⊢
                  go_wp2
                  go_roundg (i - (k + 1))
                  case measure => have := HGk.out; have := HKI.out; omega
                  case rel => exact ⟨k + 1, HBd.out, by go_num, by have := HKI.out; omega, HN2⟩
              · have HR2 : Hid (RtTo L (i + 1)) := Lib.hid (HR.out.next (by rw [← HRr.out]; exact HV.out) HPO.out (fun k' h => HK.out k' (by omega)))
                clear hgk
                go_wp2
                go_roundg (n - (i + 1))
                case measure => have := HG.out; have := HI.out; omega
                case rel => exact ⟨i + 1, HBk.out, by go_num, by have := HI.out; omega, HR2⟩
    · have hin : i = n := by omega
      subst hin
      have HE : Hid (q = true) := Lib.hid (HQ.out.2 (RtTo.all (by rw [HL.out]; exact HR.out)))
      clear hg
      go_wp2
      go_ret
      exact ⟨by rw [HE.out]; rfl, HB.out⟩
#print axioms refRight_any
end Go.Proofs.Ytmenhbdapikpeaa
