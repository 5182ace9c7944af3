/-
  The law of the paths that documents have, walked.
-/
import Derived.Test.YtipoielcmaegaaaGreatDoorRf14All
import Derived.Test.YtipoielcmaegaaaGreatDoorRegEq
import Derived.Test.YtipoielcmaegaaaGreatDoorRegAwake
namespace Go.Proofs.YtipoielcmaegaaaGreatDoor
open Go.RowKit Go.Maps

theorem right_cases (L : List ClaimV) : ∃ q : Bool, q = true ↔ RightR L := ⟨(by classical exact decide (RightR L)), by classical exact decide_eq_true_iff⟩
theorem shown_none {L S : List ClaimV} (h : Shown L S) (hn : ¬ RightR L) : S = [] := by
  rcases h with h | h
  · exact absurd h.1 hn
  · exact h.2

set_option maxRecDepth 100000 in
set_option maxHeartbeats 2000000 in
theorem registerPaths_any (a : Option Addr) (n c : Nat) (L : List ClaimV) (w : World) (h : AtG clK w a n c L) (hT : PTabs w) :
    Calls Tryz.prog 3 #[.slice a n c] w fun e w' => e = .returned (.bool true) ∧ Below w.heap.size w w' := by
  obtain ⟨q, hq⟩ := light_cases n L
  have HLI := Lib.hid (light_any a n c L w h q hq)
  cases q
  · clear h hT hq
    go_enter Tryz.func3, Tryz.ntmps3
    go_wp2_with (go_at_call 5; go_must (refine HLI.out.mono ?_); rintro e w1 ⟨rfl, rfl⟩)
    go_ret
    exact ⟨rfl, Below.refl _ _⟩
  obtain ⟨hn40, hl⟩ := hq.1 rfl
  obtain ⟨q, hqr⟩ := right_cases L
  have HM := Lib.hid hn40
  have HM60 := Lib.hid (Nat.le_trans hn40 (by decide) : n ≤ 60)
  have HMk := Lib.hid (Nat.le_trans hn40 (by decide) : n ≤ 1000)
  have HL := Lib.hid h.1
  have HN := Lib.hid h
  have HLL := Lib.hid (fun c hc => (Nat.le_trans (hl c hc) (by decide) : c.path.length ≤ 100000))
  have HT := Lib.hid hT
  have HTO := Lib.hid (fun W (hW : Below w.heap.size w W) => told_any a n c L W (h.below hW) (by omega))
  have AW := Lib.hid (fun W (hW : Below w.heap.size w W) => regAwake_any W (hT.below hW))
  have HRR := Lib.hid (fun W (hW : Below w.heap.size w W) => refRight_any a n c L W (h.below hW) (by omega) HLL.out q hqr)
  have HPR := Lib.hid (fun W am cm (hA : AtG clK W am n cm L) (hW : Below w.heap.size w W) => right_any am n cm L W hA HMk.out HLL.out (hT.below hW) q hqr)
  have HRP := Lib.hid (fun W (hW : Below w.heap.size w W) (hR : RightR L) => refPaths_any a n c L W (h.below hW) HM60.out hR HLL.out)
  have HQR := Lib.hid hqr
  clear h hT hq hn40 hl hqr
  cases q
  · have HNR : Hid (¬ RightR L) := Lib.hid (fun h => by have := HQR.out.2 h; cases this)
    clear HQR HRP
    go_enter Tryz.func3, Tryz.ntmps3
    go_wp2_with (first
      | (go_at_call 5; go_must (refine HLI.out.mono ?_); rintro e w1 ⟨rfl, rfl⟩)
      | (go_at_call 7; (with_reducible refine (HTO.out w (Below.refl _ _)).mono ?_); rintro e w2 ⟨a2, c2, rfl, ho2, hb2⟩; rw [HL.out] at ho2 ⊢; have HA2 := Lib.hid ho2.atG; have HB2 := Lib.hid hb2; have HP2 := Lib.hid (paths_any a2 n c2 L w2 HA2.out HM60.out HLL.out (HT.out.below HB2.out)); clear ho2 hb2)
      | (go_at_call 7; (with_reducible refine (HTO.out _ HB4.out).mono ?_); rintro e w6 ⟨a6, c6, rfl, ho6, hb6⟩; rw [HL.out] at ho6 ⊢; have HB6 := Lib.hid (HB4.out.trans (hb6.mono HB4.out.size)); have HA6 := Lib.hid ho6.atG; clear ho6 hb6)
      | (go_at_call 6; go_must (refine HP2.out.mono ?_); rintro e w3 ⟨S, P, a3, c3, rfl, hsh, hp, hat, hb3⟩; obtain rfl := shown_none hsh HNR.out; have HS := Lib.hid hsh; have HP := Lib.hid hp; have HA := Lib.hid hat; have HB3 := Lib.hid (HB2.out.trans (hb3.mono HB2.out.size)); clear hsh hp hat hb3)
      | (go_at_call 8; go_must (refine (HRR.out _ HB3.out).mono ?_); rintro e w4 ⟨rfl, hb4⟩; have HB4 := Lib.hid (HB3.out.trans (hb4.mono HB3.out.size)); have HA4 := Lib.hid (HA.out.below hb4); clear hb4)
      | (go_at_call 9; go_must (refine (HPR.out _ _ _ HA6.out HB6.out).mono ?_); rintro e w7 ⟨rfl, hb7⟩; have HB7 := Lib.hid (HB6.out.trans (hb7.mono HB6.out.size)); clear hb7)
      | (go_at_call 10; go_must (refine (AW.out _ HB7.out).mono ?_); rintro e w9 ⟨rfl, hb9⟩))
    go_ret
    exact ⟨rfl, HB7.out.trans (hb9.mono HB7.out.size)⟩
  · have HR1 : Hid (RightR L) := Lib.hid (HQR.out.1 rfl)
    clear HQR
    go_enter Tryz.func3, Tryz.ntmps3
    go_wp2_with (first
      | (go_at_call 5; go_must (refine HLI.out.mono ?_); rintro e w1 ⟨rfl, rfl⟩)
      | (go_at_call 7; (with_reducible refine (HTO.out w (Below.refl _ _)).mono ?_); rintro e w2 ⟨a2, c2, rfl, ho2, hb2⟩; rw [HL.out] at ho2 ⊢; have HA2 := Lib.hid ho2.atG; have HB2 := Lib.hid hb2; have HP2 := Lib.hid (paths_any a2 n c2 L w2 HA2.out HM60.out HLL.out (HT.out.below HB2.out)); clear ho2 hb2)
      | (go_at_call 7; (with_reducible refine (HTO.out _ HB5.out).mono ?_); rintro e w6 ⟨a6, c6, rfl, ho6, hb6⟩; rw [HL.out] at ho6 ⊢; have HB6 := Lib.hid (HB5.out.trans (hb6.mono HB5.out.size)); have HA6 := Lib.hid ho6.atG; have hb6w := Lib.hid hb6; clear ho6 hb6)
      | (go_at_call 6; go_must (refine HP2.out.mono ?_); rintro e w3 ⟨S, P, a3, c3, rfl, hsh, hp, hat, hb3⟩; have HS := Lib.hid hsh; have HP := Lib.hid hp; have HA := Lib.hid hat; have HB3 := Lib.hid (HB2.out.trans (hb3.mono HB2.out.size)); clear hsh hp hat hb3)
      | (go_at_call 8; go_must (refine (HRR.out _ HB3.out).mono ?_); rintro e w4 ⟨rfl, hb4⟩; have HB4 := Lib.hid (HB3.out.trans (hb4.mono HB3.out.size)); have HA4 := Lib.hid (HA.out.below hb4); clear hb4)
      | (go_at_call 9; go_must (refine (HPR.out _ _ _ HA6.out HB6.out).mono ?_); rintro e w7 ⟨rfl, hb7⟩; have HB7 := Lib.hid (HB6.out.trans (hb7.mono HB6.out.size)); have HA7 := Lib.hid (HA5.out.below (hb6w.out.trans (hb7.mono hb6w.out.size))); have HC7 := Lib.hid (HC5.out.below (hb6w.out.trans (hb7.mono hb6w.out.size))); clear hb7)
      | (go_at_call 11; go_must (refine (HRP.out _ HB4.out HR1.out).mono ?_); rintro e w5 ⟨S2, P2, a5, c5, rfl, hsh2, hp2, hat2, hb5⟩; obtain rfl := Shown.uniq (List.Perm.refl _) HS.out hsh2; obtain rfl := HP.out.uniq hp2; have HB5 := Lib.hid (HB4.out.trans (hb5.mono HB4.out.size)); have HA5 := Lib.hid (HA4.out.below hb5); have HC5 := Lib.hid hat2; clear hsh2 hp2 hat2 hb5))
    obtain ⟨m, hm⟩ : ∃ m, S.length = m := ⟨_, rfl⟩
    rw [hm] at HA7 HC7 ⊢
    have HML := Lib.hid hm
    have hmI : (m : Int) ≤ 40 := by
      have h1 := HS.out.length
      rw [HL.out, hm] at h1
      have := HM.out
      omega
    clear hm
    go_loopg [5] m (fun g v5 W => ∃ i : Nat, v5 = .int .i64 i ∧ g + i = m ∧ Hid (Below w7.heap.size w7 W))
    case atStart => exact ⟨0, rfl, rfl, Lib.hid (Below.refl _ _)⟩
    case round =>
      obtain ⟨i, rfl, hg, HB⟩ := hrel
      have HG := Lib.hid hg
      have hi0 : (0 : Int) ≤ (i : Int) := by omega
      have hiI : (i : Int) ≤ (m : Int) := by omega
      by_cases hi : (i : Int) < (m : Int)
      · have him : i < m := by omega
        have HI := Lib.hid him
        obtain ⟨b, o, rfl⟩ := HA7.out.some_ (by omega)
        obtain ⟨b5, o5, rfl⟩ := HC7.out.some_ (by omega)
        obtain ⟨X, hX⟩ : ∃ X, X = gd (zipN S P) i := ⟨_, rfl⟩
        have HX : Hid (X.1.c.length = 32) := Lib.hid (hX ▸ HA7.out.ok him)
        have HBd := Lib.hid HB.out.drew
        have HXR : Hid (wr.drew.rangeAt b (o + i * 35) (nmL X)) := Lib.hid (hX ▸ (HA7.out.below HBd.out).at_ i him)
        have HYR : Hid (wr.drew.rangeAt b5 (o5 + i * 35) (keyL X.1)) := Lib.hid (hX ▸ nm_doc (HC7.out.below HBd.out) him)
        obtain ⟨p, hp⟩ : ∃ p, strB X.2 = p := ⟨_, rfl⟩
        have hcp : wr.drew.cell? ⟨b5, o5 + i * 35 + 34, none⟩ = some (.string p) := hp ▸ hX ▸ nm_path (HC7.out.below HBd.out) him
        have HPE := Lib.hid hp
        have hiB : (i : Int) < (m : Int) := hi
        clear hg hX hp him
        go_wp2
        refine wp_region_still_tail 15 (by kernel_rfl) (by kernel_rfl) ?_
        simp only [List.take_succ_cons, List.take_zero, List.drop_succ_cons, List.drop_zero]
        iterate 3 still_step
        refine still_w (by rfl) (exec_loadNamed _ rfl _ _ X HX.out rfl HXR.out) ?_
        simp only [Act.put, List.setIfInBounds_toArray, List.set_cons_zero, List.set_cons_succ]
        iterate 4 still_step
        refine still_w (by rfl) (exec_loadKey _ rfl _ _ X.1 HX.out rfl HYR.out) ?_
        simp only [Act.put, List.setIfInBounds_toArray, List.set_cons_zero, List.set_cons_succ]
        iterate 5 still_step
        refine still_w (by rfl) (exec_named _ _ rfl X.1 HX.out X.2 p HPE.out.symm rfl rfl) ?_
        simp only [Act.put, List.setIfInBounds_toArray, List.set_cons_zero, List.set_cons_succ]
        with_reducible refine wpStill_nil ?_
        change wpList _ _ _ _ _ wr.drew
        generalize wr.drew = wd at HBd hcp HXR HYR ⊢
        clear hcp
        go_wp2_with ((with_reducible show wpList _ _ _ (⟨some 61, _, _, _, _, _⟩ :: _) _ _); go_must (refine wl_ex rfl (exec_neqNamed _ _ _ rfl X HX.out rfl rfl) ?_))
        go_roundg (m - (i + 1))
        case measure => have := HG.out; have := HI.out; omega
        case rel => exact ⟨i + 1, by go_num, by have := HI.out; omega, HBd⟩
      · have him : i = m := by omega
        subst him
        have HBw := Lib.hid (HB7.out.trans (HB.out.mono HB7.out.size))
        clear hg
        go_wp2_with (go_at_call 10; go_must (refine (AW.out _ HBw.out).mono ?_); rintro e w9 ⟨rfl, hb9⟩)
        go_ret
        exact ⟨rfl, HBw.out.trans (hb9.mono HBw.out.size)⟩
#print axioms registerPaths_any
end Go.Proofs.YtipoielcmaegaaaGreatDoor
