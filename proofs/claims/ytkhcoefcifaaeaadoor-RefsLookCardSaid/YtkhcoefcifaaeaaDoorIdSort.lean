/-
  The walks of slices.Clone at ids and of order.sorted at ids.
-/
import Derived.Test.YtkhcoefcifaaeaaDoorGrp15
import Derived.Test.YtkhcoefcifaaeaaDoorIdMerge
import Derived.Lib.SliceRun
namespace Go.Proofs.YtkhcoefcifaaeaaDoor
open Go.RowKit

set_option maxRecDepth 100000 in
set_option maxHeartbeats 400000 in
theorem cloneI_any (a : Option Addr) (n c : Nat) (l : List (List UInt8)) (w : World) (hb : IdsAt w a n c l) (hl : n ≤ 1000000000) :
    Calls Tryd.prog 78 #[.slice a n c] w (MadeI w l) := by
  rcases a with _ | ad
  · have hn0 : l = [] := by
      rcases hb.2.2.2.2 with ⟨h0, _⟩ | ⟨b, off, h, _⟩
      · exact List.length_eq_zero_iff.1 (by rw [hb.1]; exact h0)
      · cases h
    subst hn0
    have HO := Lib.hid (OwnI.nil w w.heap.size)
    clear hb
    have q := fun W a n c n' c' => Lib.run_eql_slice_nil (P := Tryd.prog) W _ _ a n c n' c' Tryd.underlying39
    go_enter Tryd.func78, Tryd.ntmps78
    go_wp2
    go_ret
    exact MadeI.of HO.out (Below.refl _ _)
  · have hbel : Below w.heap.size w (w.alloc (.cells #[] 24)) := (Below.refl _ _).alloc (Nat.le_refl _) _
    have HB := Lib.hid (hb.below hbel)
    have HO := Lib.hid (ownI_empty w)
    have HBL := Lib.hid hbel
    clear hbel hb
    have q := fun W a n c n' c' => Lib.run_eql_slice_nil (P := Tryd.prog) W _ _ a n c n' c' Tryd.underlying39
    go_enter Tryd.func78, Tryd.ntmps78
    go_wp2_with (at_builtin; go_must (refine app_ids rfl (.tmp 5) (.tmp 6) rfl w.heap.size _ [] rfl HO.out (some ad) n c l rfl HB.out (by simp; omega) (by simp) ?_); intro v' w1 hown1 hgr1)
    go_ret
    exact MadeI.of (by simpa using hown1) (HBL.out.grown hgr1 (by simp) (fun k hk => (HO.out.lt k hk).1))
#print axioms cloneI_any

theorem clone_is (a : Option Addr) (n c : Nat) (l : List (List UInt8)) (w : World) (hb : IdsAt w a n c l) (hl : n ≤ 1000000000) :
    Calls Tryd.prog 78 #[.slice a n c] w fun e w' => ∃ a1 c1, e = .returned (.slice a1 n c1) ∧ OwnI w' w.heap.size (.slice a1 n c1) l ∧ Below w.heap.size w w' := by
  have hn := hb.1
  refine (cloneI_any a n c l w hb hl).mono ?_
  rintro e w' ⟨a1, n1, c1, rfl, ho, hbb⟩
  obtain ⟨a2, c2, hv, _⟩ := ho.ids
  simp only [Value.slice.injEq] at hv
  obtain ⟨rfl, rfl, rfl⟩ := hv
  subst hn
  exact ⟨a1, c1, rfl, ho, hbb⟩

theorem RowC.whole {w : World} {g n c : Nat} {L : List (List UInt8)} (h : RowC w g L) (hn : L.length = n) (hc : n ≤ c) (hc2 : c ≤ 9223372036854775807) : IdsAt w (some ⟨g, 0, none⟩) n c L := by
  have := h.part 0 n c (by omega) hc hc2
  rwa [Nat.zero_mul, List.drop_zero, List.take_of_length_le (by omega)] at this

/-- The two rows that sorting goes between. -/
def Two (base n : Nat) (W : World) (aL aR : Option Addr) (cL cR : Nat) (L R : List (List UInt8)) : Prop :=
  0 < n → ∃ gl gr, aL = some ⟨gl, 0, none⟩ ∧ aR = some ⟨gr, 0, none⟩ ∧ gl ≠ gr ∧ base ≤ gl ∧ base ≤ gr ∧ RowC W gl L ∧ RowC W gr R ∧ n ≤ cL ∧ cL ≤ 9223372036854775807 ∧ n ≤ cR ∧ cR ≤ 9223372036854775807

theorem MadeRI.of {w w' : World} {l : List (List UInt8)} {n c : Nat} {a : Option Addr} (hn : l.length = n) (h : IdsAt w' a n c l) (hb : Below w.heap.size w w') (hr : 0 < n → ∃ g, a = some ⟨g, 0, none⟩ ∧ w.heap.size ≤ g ∧ RowC w' g l) : MadeRI w l (.returned (.slice a n c)) w' := by
  subst hn; exact ⟨a, c, rfl, h, hb, hr⟩

theorem merge_runs {W : World} {gl gr q f mid en cL cR n : Nat} {L R : List (List UInt8)} (hL : RowC W gl L) (hR : RowC W gr R) (hne : gl ≠ gr) (hLn : L.length = n) (hRn : R.length = n) (hn : n ≤ 1000000000)
    (hmid : (f + q ≤ n ∧ mid = f + q) ∨ (n < f + q ∧ mid = n)) (hen : (f + 2 * q ≤ n ∧ en = f + 2 * q) ∨ (n < f + 2 * q ∧ en = n)) (hf : f < n) (hcl : n ≤ cL) (hcl2 : cL ≤ 9223372036854775807) :
    Calls Tryd.prog 79 #[.slice (some ⟨gr, f * 32, none⟩) (en - f) (cR - f), .slice (some ⟨gl, f * 32, none⟩) (mid - f) (cL - f), .slice (if cL = mid then some ⟨gl, 0, none⟩ else some ⟨gl, mid * 32, none⟩) (en - mid) (cL - mid), cmpV] W
      fun e w' => e = .returned (.tuple #[]) ∧ Kept gr W w' ∧ RowC w' gr (R.take f ++ (twoM q f L ++ R.drop (f + (twoM q f L).length))) := by
  have hA : IdsAt W (some ⟨gl, f * 32, none⟩) (mid - f) (cL - f) ((L.drop f).take q) := by
    have h := hL.part f (mid - f) (cL - f) (by omega) (by omega) (by omega)
    have e : (L.drop f).take (mid - f) = (L.drop f).take q := by
      rcases hmid with ⟨h1, h2⟩ | ⟨h1, h2⟩
      · rw [show mid - f = q from by omega]
      · rw [List.take_of_length_le (by simp; omega), List.take_of_length_le (by simp; omega)]
    rwa [e] at h
  have hC : IdsAt W (if cL = mid then some ⟨gl, 0, none⟩ else some ⟨gl, mid * 32, none⟩) (en - mid) (cL - mid) ((L.drop (f + q)).take q) := by
    have e : (L.drop mid).take (en - mid) = (L.drop (f + q)).take q := by
      rcases hmid with ⟨h1, h2⟩ | ⟨h1, h2⟩
      · rw [h2]
        rcases hen with ⟨h3, h4⟩ | ⟨h3, h4⟩
        · rw [show en - (f + q) = q from by omega]
        · rw [List.take_of_length_le (by simp; omega), List.take_of_length_le (by simp; omega)]
      · rw [List.drop_eq_nil_of_le (by omega), List.drop_eq_nil_of_le (by omega)]; simp
    by_cases hc : cL = mid
    · rw [if_pos hc]
      have h0 : (L.drop (f + q)).take q = [] := by
        rw [← e, List.drop_eq_nil_of_le (by omega)]; simp
      rw [h0]
      exact ⟨by simp; omega, by omega, by omega, (fun _ h => by cases h), .inl ⟨by omega, by omega⟩⟩
    · rw [if_neg hc, ← e]
      exact hL.part mid (en - mid) (cL - mid) (by omega) (by omega) (by omega)
  have hlen := twoM_length q f L
  refine (merge_any gr f (en - f) (cR - f) R _ _ _ _ _ _ _ _ W hR (by omega) hA hC (fun b off h => by simp only [Option.some.injEq, Addr.mk.injEq, and_true] at h; omega)
    (fun b off h => by split at h <;> simp only [Option.some.injEq, Addr.mk.injEq, and_true] at h <;> omega) (by omega) (by omega)).mono ?_
  rintro e w' ⟨rfl, hk, hr⟩
  refine ⟨rfl, hk, ?_⟩
  have e : filled R (mrg ((L.drop f).take q) ((L.drop (f + q)).take q)) f (en - f) = R.take f ++ (twoM q f L ++ R.drop (f + (twoM q f L).length)) := by
    show R.take f ++ ((twoM q f L).take (en - f) ++ R.drop (f + (en - f))) = _
    have h1 : (twoM q f L).length = en - f := by omega
    rw [show (twoM q f L).take (en - f) = twoM q f L from List.take_of_length_le (by omega), h1]
  rwa [e] at hr

set_option maxRecDepth 100000 in
set_option maxHeartbeats 4000000 in
theorem sorted_any (a : Option Addr) (n c : Nat) (l : List (List UInt8)) (w : World) (hb : IdsAt w a n c l) (hl : n ≤ 1000000000) :
    Calls Tryd.prog 72 #[.slice a n c, cmpV] w (MadeRI w (sortF l)) := by
  have HCL := Lib.hid (clone_is a n c l w hb hl)
  have HLN := Lib.hid hb.1
  have hnI : (n : Int) ≤ 1000000000 := by omega
  have hn0 : (0 : Int) ≤ (n : Int) := by omega
  have HHN := Lib.hid (show n ≤ 1000000000000 by omega)
  have HNB := Lib.hid hl
  clear hb hl
  unfold cmpV
  go_enter Tryd.func72, Tryd.ntmps72
  go_wp2_with (first
    | (at_make; go_must (refine make_ids rfl _ _ rfl n rfl rfl HHN.out ?_); intro w2 hz hgz)
    | (go_at_call 78; go_must (refine HCL.out.mono ?_); rintro e w1 ⟨a1, c1, rfl, hown, hb1⟩))
  have hbw : Below w.heap.size w w2 := hb1.grown hgz hb1.size (fun k hk => by cases hk)
  have hbg : Below w1.heap.size w1 w2 := (Below.refl _ _).grown hgz (Nat.le_refl _) (fun k hk => by cases hk)
  have H2 := Lib.hid (show Two w.heap.size n w2 a1 (some ⟨w1.heap.size, 0, none⟩) c1 n l (zeros n) from fun hp => by
    obtain ⟨gl, rfl, hgb, hrow, hlen, hc1, hc2⟩ := hown.row hp
    obtain ⟨gr, hgr, hgb2, hrow2, _⟩ := hz.row hp
    simp only [Option.some.injEq, Addr.mk.injEq, and_true] at hgr
    subst hgr
    have hlt := hrow.lt (by omega)
    exact ⟨gl, _, rfl, rfl, by omega, hgb, hb1.size, hrow.below hbg, hrow2, hc1, hc2, Nat.le_refl _, by omega⟩)
  have HI := Lib.hid (hown.isIds.below hbg)
  have HP := Lib.hid (show l.Perm l ∧ RunsI 1 l ∧ (zeros n).length = n from ⟨List.Perm.refl _, runs_oneI l, zeros_length n⟩)
  clear hown hz hgz hb1 hbg
  go_loopg [0, 5, 6] (n - 1) (fun g v0 v5 v6 W => ∃ (q : Nat) (aL aR : Option Addr) (cL cR : Nat) (L R : List (List UInt8)), v0 = .slice aL n cL ∧ v5 = .slice aR n cR ∧ v6 = .int .i64 q ∧ g = n - q ∧ 1 ≤ q ∧ (q : Int) ≤ 2000000000 ∧ Below w.heap.size w W ∧ Hid (Two w.heap.size n W aL aR cL cR L R) ∧ Hid (IdsAt W aL n cL L) ∧ Hid (L.Perm l ∧ RunsI q L ∧ R.length = n))
  case atStart => exact ⟨1, a1, _, c1, n, l, zeros n, rfl, rfl, rfl, rfl, Nat.le_refl _, by omega, hbw, H2, HI, HP⟩
  case round =>
    clear HI H2 HP hbw
    obtain ⟨q, aL, aR, cL, cR, L, R, rfl, rfl, rfl, hg, hq1, hq2, hbw, H2, HI, HP⟩ := hrel
    have HG := Lib.hid hg
    have HQ1 := Lib.hid hq1
    have hq0 : (0 : Int) ≤ (q : Int) := by omega
    by_cases hqn : (q : Int) < (n : Int)
    · obtain ⟨gl, gr, rfl, rfl, hne, hbl, hbr, hrl, hrr, hcl1, hcl2, hcr1, hcr2⟩ := H2.out (by omega)
      have HNE := Lib.hid hne
      have HBL := Lib.hid hbl
      have HBR := Lib.hid hbr
      have HCB := Lib.hid (And.intro (And.intro hcl1 hcl2) (And.intro hcr1 hcr2))
      have HL0 := Lib.hid hrl
      have HR0 := Lib.hid hrr
      have HPS := Lib.hid (pass_zero q (L := L) (R := R) (by rw [HP.out.2.2]; exact HI.out.1.symm))
      have HQN := Lib.hid (show q < n by omega)
      clear hg hq1 hne hbl hbr hrl hrr hcl1 hcl2 hcr1 hcr2 H2
      go_wp2
      go_loopg [7] n (fun g v7 W => ∃ (t f : Nat) (R' : List (List UInt8)), v7 = .int .i64 f ∧ g = n - f ∧ Hid (f = t * (2 * q)) ∧ (f : Int) ≤ 6000000000 ∧ Hid (Below w.heap.size w W) ∧ Hid (RowC W gl L) ∧ Hid (RowC W gr R') ∧ Hid (Pass q t L R'))
      case atStart => exact ⟨0, 0, R, rfl, by omega, Lib.hid (by omega), by omega, Lib.hid hbw, HL0, HR0, HPS⟩
      case round =>
        clear HL0 HR0 HPS
        obtain ⟨t, f, R', rfl, hg, hft, hfI, hbw', hL, hR, hps⟩ := hrel
        have HG2 := Lib.hid hg
        have hf0 : (0 : Int) ≤ (f : Int) := by omega
        by_cases hfn : (f : Int) < (n : Int)
        · obtain ⟨mid, hmid⟩ : ∃ mid, (f + q ≤ n ∧ mid = f + q) ∨ (n < f + q ∧ mid = n) := by by_cases h : f + q ≤ n; exact ⟨_, .inl ⟨h, rfl⟩⟩; exact ⟨_, .inr ⟨by omega, rfl⟩⟩
          obtain ⟨en, hen⟩ : ∃ en, (f + 2 * q ≤ n ∧ en = f + 2 * q) ∨ (n < f + 2 * q ∧ en = n) := by by_cases h : f + 2 * q ≤ n; exact ⟨_, .inl ⟨h, rfl⟩⟩; exact ⟨_, .inr ⟨by omega, rfl⟩⟩
          have HM := Lib.hid hmid
          have HE := Lib.hid hen
          have hm1 : (f : Int) < (mid : Int) := by have := HQ1.out; omega
          have hm2 : (mid : Int) ≤ (en : Int) := by omega
          have hm3 : (en : Int) ≤ (n : Int) := by omega
          have HMZ := Lib.hid (show (mid : Int) = if (n : Int) < (f : Int) + (q : Int) then (n : Int) else (f : Int) + (q : Int) by split <;> omega)
          have HEZ := Lib.hid (show (en : Int) = if (n : Int) < (f : Int) + 2 * (q : Int) then (n : Int) else (f : Int) + 2 * (q : Int) by split <;> omega)
          clear hmid hen hg
          go_wp2_with (first
            | (refine wl_min rfl _ _ _ rfl ((f : Int) + (q : Int)) (n : Int) (mid : Int) rfl rfl HMZ.out ?_)
            | (refine wl_min rfl _ _ _ rfl ((f : Int) + 2 * (q : Int)) (n : Int) (en : Int) rfl rfl HEZ.out ?_))
          have hwd := Lib.hid hbw'.out.drew
          have HLd := Lib.hid (hL.out.below (Below.refl _ wr).drew)
          have HRd := Lib.hid (hR.out.below (Below.refl _ wr).drew)
          have s1 : en ≤ cR := by have := HCB.out.2.1; omega
          have s2 : en ≤ cL := by have := HCB.out.1.1; omega
          have s3 : mid ≤ cL := by omega
          have s4 : f ≤ en := by omega
          have s5 : f ≤ mid := by omega
          have s6 : mid ≤ en := by omega
          have s7 : (cR = f) = False := eq_false (by omega)
          have s8 : (cL = f) = False := eq_false (by omega)
          have HS := Lib.hid (show Calls Tryd.prog 79 #[.slice (some ⟨gr, f * 32, none⟩) (en - f) (cR - f), .slice (some ⟨gl, f * 32, none⟩) (mid - f) (cL - f), .slice (if cL = mid then some ⟨gl, 0, none⟩ else some ⟨gl, mid * 32, none⟩) (en - mid) (cL - mid), cmpV] wr.drew
            fun e w' => e = .returned (.tuple #[]) ∧ Kept gr wr.drew w' ∧ RowC w' gr (R'.take f ++ (twoM q f L ++ R'.drop (f + (twoM q f L).length))) from
            merge_runs (n := n) HLd.out HRd.out HNE.out HI.out.1 (hps.out.1.trans HI.out.1) HNB.out HM.out HE.out (by omega) HCB.out.1.1 HCB.out.1.2)
          have HFN := Lib.hid (show f < n by omega)
          by_cases hcm : cL = mid
          · subst hcm
            rw [if_pos rfl, Nat.sub_self, show en - cL = 0 by omega] at HS
            refine wp_region_still_tail 13 (by kernel_rfl) (by kernel_rfl) ?_
            simp only [List.take_succ_cons, List.take_zero, List.drop_succ_cons, List.drop_zero]
            still_step
            still_step
            still_step
            still_step
            still_step
            still_step
            still_step
            still_step
            still_step
            still_step
            still_step
            still_step
            still_step
            refine wpStill_nil ?_
            change wpList _ _ _ _ _ wr.drew
            generalize wr.drew = wq at hwd HLd HRd HS ⊢
            unfold cmpV at HS
            go_wp2_with (go_at_call 79; go_must (refine HS.out.mono ?_); rintro e wm ⟨rfl, hkm, hrm⟩)
            have HP2 := Lib.hid (show Pass q (t + 1) L (R'.take f ++ (twoM q f L ++ R'.drop (f + (twoM q f L).length))) by
              have h := pass_step HP.out.2.1 hps.out (by rw [← hft.out, HI.out.1]; exact HFN.out)
              rwa [← hft.out] at h)
            go_roundg (n - (f + 2 * q))
            case measure => have := HQ1.out; have := HFN.out; have := HG2.out; omega
            case rel => exact ⟨t + 1, f + 2 * q, _, by go_num, rfl, Lib.hid (by rw [Nat.add_mul, Nat.one_mul, ← hft.out]), by omega, Lib.hid (hkm.below hwd.out HBR.out (by have := hwd.out.size; exact this)), Lib.hid (HLd.out.kept hkm HNE.out), Lib.hid hrm, HP2⟩
          · have s9 : (cL = mid) = False := eq_false hcm
            rw [if_neg hcm] at HS
            clear hcm
            refine wp_region_still_tail 13 (by kernel_rfl) (by kernel_rfl) ?_
            simp only [List.take_succ_cons, List.take_zero, List.drop_succ_cons, List.drop_zero]
            still_step
            still_step
            still_step
            still_step
            still_step
            still_step
            still_step
            still_step
            still_step
            still_step
            still_step
            still_step
            still_step
            refine wpStill_nil ?_
            change wpList _ _ _ _ _ wr.drew
            generalize wr.drew = wq at hwd HLd HRd HS ⊢
            unfold cmpV at HS
            go_wp2_with (go_at_call 79; go_must (refine HS.out.mono ?_); rintro e wm ⟨rfl, hkm, hrm⟩)
            have HP2 := Lib.hid (show Pass q (t + 1) L (R'.take f ++ (twoM q f L ++ R'.drop (f + (twoM q f L).length))) by
              have h := pass_step HP.out.2.1 hps.out (by rw [← hft.out, HI.out.1]; exact HFN.out)
              rwa [← hft.out] at h)
            go_roundg (n - (f + 2 * q))
            case measure => have := HQ1.out; have := HFN.out; have := HG2.out; omega
            case rel => exact ⟨t + 1, f + 2 * q, _, by go_num, rfl, Lib.hid (by rw [Nat.add_mul, Nat.one_mul, ← hft.out]), by omega, Lib.hid (hkm.below hwd.out HBR.out (by have := hwd.out.size; exact this)), Lib.hid (HLd.out.kept hkm HNE.out), Lib.hid hrm, HP2⟩
        · have HFN := Lib.hid (show n ≤ f by omega)
          clear hg
          go_wp2
          have HE2 := Lib.hid (pass_end hps.out (by rw [← hft.out, HI.out.1]; exact HFN.out))
          go_roundg (n - 2 * q)
          case measure => have := HQ1.out; have := HQN.out; have := HG.out; omega
          case rel => exact ⟨2 * q, _, _, cR, cL, R', L, rfl, rfl, by go_num, rfl, by have := HQ1.out; omega, by omega, hbw'.out, Lib.hid (fun _ => ⟨gr, gl, rfl, rfl, fun h => HNE.out h.symm, HBR.out, HBL.out, hR.out, hL.out, HCB.out.2.1, HCB.out.2.2, HCB.out.1.1, HCB.out.1.2⟩), Lib.hid (hR.out.whole (HE2.out.1.trans HI.out.1) HCB.out.2.1 HCB.out.2.2), Lib.hid ⟨HE2.out.2.1.trans HP.out.1, HE2.out.2.2, HI.out.1⟩⟩
    · have HQN := Lib.hid (show n ≤ q by omega)
      have HLS := Lib.hid (show L = sortF l from sortF_of (runs_all HP.out.2.1 (by rw [HI.out.1]; exact HQN.out)) HP.out.1)
      clear hg hq1
      go_wp2
      go_ret
      have hLS := HLS.out
      subst hLS
      exact MadeRI.of HI.out.1 HI.out hbw (fun hp => by
        obtain ⟨gl, gr, h1, h2, hne, hbl, hbr, hrl, hrr, _⟩ := H2.out hp
        exact ⟨gl, h1, hbl, hrl⟩)
#print axioms sorted_any
end Go.Proofs.YtkhcoefcifaaeaaDoor
