/-
  The walk of a law: files of a tree are one without any one of them, and in another order.
-/
import Derived.Test.YtcahdlihoocplaaDoorPathTrees
namespace Go.Proofs.YtcahdlihoocplaaDoor
open Go.RowKit

theorem tree_is (a : Option Addr) (n c : Nat) (L : List FileL) (z : Nat) (w : World) (hA : FilesAt w a n c L) (hX : ∀ j, j < n → (L.getD j default).1.length ≤ 140737488355328 ∧ (L.getD j default).2.length ≤ 140737488355328) (hT : PTabs w) (hz : treeF L = z) :
    Calls Tryd.prog 28 #[.slice a n c] w fun e w' => e = .returned (.int .i64 (z : Int)) ∧ Below w.heap.size w w' := by subst hz; exact tree_any a n c L w hA hX hT

theorem cell_set_at {w : World} {g p q : Nat} {u v : Value} (h : w.cell? ⟨g, q, none⟩ = some v) : (w.setCell ⟨g, p, none⟩ u).cell? ⟨g, q, none⟩ = some (if p = q then u else v) := by
  by_cases e : p = q
  · subst e
    rw [if_pos rfl]
    exact World.cell?_setCell_same' w _ u (by rw [h]; rfl)
  · rw [if_neg e]
    refine Eq.trans (World.cell?_setCell_other (h := ?_) ..) h
    intro hh
    simp only [Addr.mk.injEq, true_and, and_true] at hh
    exact e hh
theorem FilesAt.setFile {w : World} {g n c : Nat} {L : List FileL} (h : FilesAt w (some ⟨g, 0, none⟩) n c L) (k : Nat) (f : FileL) (hk : k < n) :
    FilesAt ((w.setCell ⟨g, k * 2, none⟩ (.string (strB f.1))).setCell ⟨g, k * 2 + 1, none⟩ (.string (strB f.2))) (some ⟨g, 0, none⟩) n c (L.set k f) := by
  refine ⟨by rw [List.length_set]; exact h.1, h.2.1, h.2.2.1, .inr ⟨g, 0, rfl, fun j hj => ?_⟩⟩
  obtain ⟨c1, c2⟩ := h.cell j hj
  have hl := h.1
  rw [Nat.zero_add] at c1 c2 ⊢
  have d1 := cell_set_at (p := k * 2 + 1) (u := .string (strB f.2)) (cell_set_at (p := k * 2) (u := .string (strB f.1)) c1)
  have d2 := cell_set_at (p := k * 2 + 1) (u := .string (strB f.2)) (cell_set_at (p := k * 2) (u := .string (strB f.1)) c2)
  by_cases e : k = j
  · subst e
    have hg : (L.set k f).getD k default = f := by simp [show k < L.length by omega]
    rw [hg]
    rw [if_neg (by omega), if_pos rfl] at d1
    rw [if_pos rfl] at d2
    exact ⟨d1, d2⟩
  · have hg : (L.set k f).getD j default = L.getD j default := by
      rw [List.getD_eq_getElem?_getD, List.getD_eq_getElem?_getD, List.getElem?_set_ne e]
    rw [hg]
    rw [if_neg (by omega), if_neg (by omega)] at d1
    rw [if_neg (by omega), if_neg (by omega)] at d2
    exact ⟨d1, d2⟩
theorem TreeOk.small {fs : List FileL} (h : TreeOk fs) (j : Nat) (hj : j < fs.length) : (fs.getD j default).1.length ≤ 140737488355328 ∧ (fs.getD j default).2.length ≤ 140737488355328 := by
  obtain ⟨h1, h2⟩ := h.2.1 j hj
  constructor
  · unfold pathF at h1
    simp only [Bool.and_eq_true, decide_eq_true_eq] at h1
    have := h1.1.1.2
    omega
  · unfold bytesF at h2
    split at h2
    · cases h2
    · omega

/-- The files so far without one. -/
def lessL (L : List FileL) (k : Nat) : Nat → List FileL
  | 0 => []
  | i + 1 => if i = k then lessL L k i else lessL L k i ++ [L.getD i default]
theorem lessL_ahead (L : List FileL) (k : Nat) : ∀ i, i ≤ k → i ≤ L.length → lessL L k i = L.take i
  | 0, _, _ => rfl
  | i + 1, h, hl => by
    unfold lessL
    rw [if_neg (by omega), lessL_ahead L k i (by omega) (by omega), List.take_succ_eq_append_getElem (by omega)]
    simp [show i < L.length by omega]
theorem lessL_behind (L : List FileL) (k : Nat) : ∀ j, k + 1 + j ≤ L.length → lessL L k (k + 1 + j) = L.take k ++ (L.drop (k + 1)).take j
  | 0, h => by
    show lessL L k (k + 1) = _
    unfold lessL
    rw [if_pos rfl, lessL_ahead L k k (Nat.le_refl _) (by omega)]; simp
  | j + 1, h => by
    show lessL L k (k + 1 + j + 1) = _
    unfold lessL
    rw [if_neg (by omega), lessL_behind L k j (by omega), List.append_assoc]
    congr 1
    have hl : j < (L.drop (k + 1)).length := by rw [List.length_drop]; omega
    rw [List.take_succ_eq_append_getElem hl]
    congr 1
    rw [List.getElem_drop]
    simp [show k + 1 + j < L.length by omega]
theorem lessL_all (L : List FileL) (k : Nat) (hk : k < L.length) : lessL L k L.length = L.take k ++ L.drop (k + 1) := by
  have := lessL_behind L k (L.length - (k + 1)) (by omega)
  rw [show k + 1 + (L.length - (k + 1)) = L.length by omega] at this
  rw [this]
  congr 1
  exact List.take_of_length_le (by rw [List.length_drop]; omega)
theorem lessL_len (L : List FileL) (k : Nat) : ∀ i, (lessL L k i).length ≤ i
  | 0 => Nat.le_refl _
  | i + 1 => by
    unfold lessL
    have := lessL_len L k i
    split
    · omega
    · simp; omega
theorem rem_nat (x : Int) (n : Nat) (h1 : (1 : Int) ≤ n) (h2 : (n : Int) ≤ 20) : ∃ k : Nat, wrap64 ((IntKind.u64.wrap x).tmod n) = (k : Int) ∧ k < n := by
  have h0 : 0 ≤ IntKind.u64.wrap x := by rw [IntKind.wrap_u64]; omega
  have ht : (IntKind.u64.wrap x).tmod n = (IntKind.u64.wrap x) % n := Int.tmod_eq_emod_of_nonneg h0
  have a := Int.emod_nonneg (IntKind.u64.wrap x) (show (n : Int) ≠ 0 by omega)
  have b := Int.emod_lt_of_pos (IntKind.u64.wrap x) (show (0 : Int) < n by omega)
  refine ⟨((IntKind.u64.wrap x) % n).toNat, ?_, by omega⟩
  rw [ht]
  unfold wrap64
  omega

set_option maxRecDepth 100000 in
set_option maxHeartbeats 2000000 in
theorem pathFewer_any (a : Option Addr) (n c : Nat) (L : List FileL) (x y : Int) (w : World) (hA : FilesAt w a n c L) (hX : ∀ j, j < n → (L.getD j default).1.length ≤ 140737488355328 ∧ (L.getD j default).2.length ≤ 140737488355328) (hT : PTabs w) :
    Calls Tryd.prog 9 #[.slice a n c, .int .i64 x, .int .i64 y] w fun e w' => e = .returned (.bool true) ∧ Below w.heap.size w w' := by
  have HA := Lib.hid hA
  have HL := Lib.hid hA.1
  have HX := Lib.hid hX
  have HT := Lib.hid hT
  clear hA hX hT
  by_cases h1 : (20 : Int) < (n : Int)
  · go_enter Tryd.func9, Tryd.ntmps9
    go_wp2
    go_ret
    exact ⟨rfl, Below.refl _ _⟩
  · by_cases h0 : (n : Int) = 0
    · have hn0 : n = 0 := by omega
      subst hn0
      go_enter Tryd.func9, Tryd.ntmps9
      go_wp2
      go_ret
      exact ⟨rfl, Below.refl _ _⟩
    · have HN := Lib.hid (show n ≤ 20 by omega)
      have hn1 : (1 : Int) ≤ (n : Int) := by omega
      have hnb : ((n : Int) == 0) = false := by simp; omega
      have hnI : (n : Int) ≤ 20 := by omega
      go_enter Tryd.func9, Tryd.ntmps9
      go_wp2
      go_loopg [7] n (fun g v7 W => ∃ i : Nat, w = W ∧ v7 = .int .i64 i ∧ g + i = n)
      case atStart => exact ⟨0, rfl, rfl, rfl⟩
      case round =>
        obtain ⟨i, rfl, rfl, hg⟩ := hrel
        have HG := Lib.hid hg
        have hi0 : (0 : Int) ≤ (i : Int) := by omega
        have hiI : (i : Int) ≤ (n : Int) := by omega
        by_cases hi : (i : Int) < (n : Int)
        · have hin : i < n := by omega
          obtain ⟨b, o, rfl⟩ := HA.out.some_ (by omega)
          obtain ⟨hc1, hc2⟩ := HA.out.cell i hin
          obtain ⟨p1, hp1⟩ : ∃ p, p = strB (L.getD i default).1 := ⟨_, rfl⟩
          obtain ⟨p2, hp2⟩ : ∃ p, p = strB (L.getD i default).2 := ⟨_, rfl⟩
          rw [← hp1] at hc1
          rw [← hp2] at hc2
          clear hg hp1 hp2
          by_cases hl1 : (200 : Int) < (p2.size : Int)
          · go_wp2
            go_ret
            exact ⟨rfl, Below.refl _ _⟩
          · by_cases hl3 : (200 : Int) < (p1.size : Int)
            · go_wp2
              go_ret
              exact ⟨rfl, Below.refl _ _⟩
            · go_wp2
              go_roundg (gk - 1)
              case measure => have := HG.out; omega
              case rel => exact ⟨i + 1, rfl, by go_num, by have := HG.out; omega⟩
        · obtain ⟨z, hz⟩ : ∃ z, treeF L = z := ⟨_, rfl⟩
          have T1 := Lib.hid (fun W h hT => tree_is a n c L z W h HX.out hT hz)
          by_cases hz0 : (z : Int) = 0
          · have hzz : z = 0 := by omega
            subst hzz
            have HOK := Lib.hid ((tree_iff L).1 hz)
            clear hg hz hz0
            go_wp2_with (first
              | (go_at_call 28; (with_reducible refine (T1.out _ HA.out HT.out).mono ?_); rintro e w5 ⟨rfl, hb5⟩; have HB5 := Lib.hid hb5; clear hb5))
            go_quiet (fail)
            obtain ⟨k, hk, hkn⟩ := rem_nat x n hn1 hnI
            obtain ⟨l, hl, hln⟩ := rem_nat y n hn1 hnI
            rw [hk, hl]
            have HK := Lib.hid hkn
            have HLN := Lib.hid hln
            have HB6 := Lib.hid (below_drewG HB5.out nq)
            generalize hW : w5.drewN nq = W6 at HB6 ⊢
            have hkI : (k : Int) < (n : Int) := by omega
            have hlI : (l : Int) < (n : Int) := by omega
            clear hk hl hkn hln hW
            go_wp2
            go_loopg [10, 11] n (fun g v10 v11 W => ∃ j : Nat, Below w.heap.size w W ∧ OwnF W w.heap.size v10 (lessL L k j) ∧ v11 = .int .i64 j ∧ g + j = n)
            case atStart => exact ⟨0, HB6.out, OwnF.nil, rfl, rfl⟩
            case round =>
              obtain ⟨j, hbw, hown, rfl, hg2⟩ := hrel
              have HG2 := Lib.hid hg2
              have HBW := Lib.hid hbw
              have HOWN := Lib.hid hown
              have hj0 : (0 : Int) ≤ (j : Int) := by omega
              have hjI : (j : Int) ≤ (n : Int) := by omega
              by_cases hj : (j : Int) < (n : Int)
              · have hjn : j < n := by omega
                by_cases hjk : (j : Int) = (k : Int)
                · have hjk2 : ((j : Int) != (k : Int)) = false := by simp; omega
                  have HN1 := Lib.hid (show lessL L k (j + 1) = lessL L k j by conv => lhs; unfold lessL; rw [if_pos (show j = k by omega)])
                  clear hg2 hbw hown
                  go_wp2
                  go_roundg (gk - 1)
                  case measure => have := HG2.out; omega
                  case rel => exact ⟨j + 1, HBW.out, by rw [HN1.out]; exact HOWN.out, by go_num, by have := HG2.out; omega⟩
                · have hjk2 : ((j : Int) != (k : Int)) = true := by simp; omega
                  have HAW := Lib.hid (HA.out.below hbw)
                  obtain ⟨b, o, hbo⟩ := HA.out.some_ (by omega)
                  subst hbo
                  obtain ⟨hc1, hc2⟩ := HAW.out.cell j hjn
                  obtain ⟨p1, hp1⟩ : ∃ p, p = strB (L.getD j default).1 := ⟨_, rfl⟩
                  obtain ⟨p2, hp2⟩ : ∃ p, p = strB (L.getD j default).2 := ⟨_, rfl⟩
                  rw [← hp1] at hc1
                  rw [← hp2] at hc2
                  have HN1 := Lib.hid (show lessL L k (j + 1) = lessL L k j ++ [(p1.data.toList, p2.data.toList)] by
                    conv => lhs; unfold lessL; rw [if_neg (show ¬ j = k by omega)]
                    rw [hp1, hp2, strB_list, strB_list])
                  have HLL := Lib.hid (lessL_len L k j)
                  clear hg2 hbw hown hp1 hp2
                  go_wp2_with (first
                    | ((with_reducible show wpList _ _ _ (⟨some 76, _, _, _, _, _⟩ :: _) _ _); go_must (refine app_files rfl (.tmp 70) (.tmp 75) rfl w.heap.size _ (lessL L k j) rfl (HOWN.out.alloc _) _ _ 1 1 [(p1.data.toList, p2.data.toList)] rfl (one_file _ _ _) (by have := HLL.out; have := HN.out; omega) (by have := HBW.out.size; simp; omega) _ rfl ?_); intro a5 c5 w7 hown5 hgr5; have HB7 := Lib.hid ((HBW.out.alloc HBW.out.size (.cells #[.string p1, .string p2] 35)).grown hgr5 (by have := HBW.out.size; simp; omega) (fun q hq => (HOWN.out.lt q hq).1)); have HO7 := Lib.hid hown5; clear hgr5 hown5))
                  go_roundg (gk - 1)
                  case measure => have := HG2.out; omega
                  case rel => exact ⟨j + 1, HB7.out, by rw [HN1.out]; exact HO7.out, by go_num, by have := HG2.out; omega⟩
              · have hjn : j = n := by omega
                have HLESS := Lib.hid (show lessL L k n = L.take k ++ L.drop (k + 1) by rw [← HL.out]; exact lessL_all L k (by rw [HL.out]; exact HK.out))
                have HAW := Lib.hid (HA.out.below hbw)
                obtain ⟨av, cv, hv10, hat10⟩ := hown.files
                rw [hjn] at hv10 hat10
                subst hv10
                have HAT10 := Lib.hid hat10
                clear hat10
                clear hg2 hbw hown
                go_wp2_with (first
                  | ((with_reducible show wpList _ _ _ (⟨some 79, _, _, _, _, _⟩ :: _) _ _); go_must (refine wl_copyFl (by rfl) (.tmp 77) (.tmp 78) rfl a n c L rfl rfl HAW.out (by have := HN.out; omega) ?_); intro a8 c8 w8 hown8 hb8; have HO8 := Lib.hid hown8; have HB8 := Lib.hid (HBW.out.trans (hb8.mono HBW.out.size)); have HD8 := Lib.hid hb8; clear hown8 hb8))
                obtain ⟨g8, hg8⟩ : ∃ g, a8 = some ⟨g, 0, none⟩ := by
                  obtain ⟨bb, oo, hh⟩ := HO8.out.isFiles.some_ (by omega)
                  have := HO8.out
                  rcases this.2 with ⟨hv, hz⟩ | ⟨g, cap, cur, hv, _⟩
                  · simp only [Value.slice.injEq] at hv
                    rw [hv.1] at hh; cases hh
                  · simp only [Value.slice.injEq] at hv
                    exact ⟨g, hv.1⟩
                subst hg8
                have hfz : ∀ q, w8.frozen? ⟨g8, q, none⟩ = false := by
                  have h9 := HO8.out
                  unfold OwnF at h9
                  rw [HL.out] at h9
                  exact fun q => World.ownsRow.frozenAt h9 q
                obtain ⟨ka1, ka2⟩ := HO8.out.isFiles.cell k HK.out
                obtain ⟨la1, la2⟩ := HO8.out.isFiles.cell l HLN.out
                rw [Nat.zero_add] at ka1 ka2 la1 la2
                obtain ⟨p1, hp1⟩ : ∃ p, p = strB (L.getD k default).1 := ⟨_, rfl⟩
                obtain ⟨p2, hp2⟩ : ∃ p, p = strB (L.getD k default).2 := ⟨_, rfl⟩
                obtain ⟨q1, hq1⟩ : ∃ p, p = strB (L.getD l default).1 := ⟨_, rfl⟩
                obtain ⟨q2, hq2⟩ : ∃ p, p = strB (L.getD l default).2 := ⟨_, rfl⟩
                rw [← hp1] at ka1
                rw [← hp2] at ka2
                rw [← hq1] at la1
                rw [← hq2] at la2
                have f1 := hfz (k * 2)
                have f2 := hfz (k * 2 + 1)
                have f3 := hfz (l * 2)
                have f4 := hfz (l * 2 + 1)
                have hk0 : (0 : Int) ≤ (k : Int) := by omega
                have hl0 : (0 : Int) ≤ (l : Int) := by omega
                have hkn2 : k < n := HK.out
                have hln2 : l < n := HLN.out
                have hg8 : wr.heap.size ≤ g8 := (HO8.out.lt g8 rfl).1
                have e1 : (w8.setCell ⟨g8, k * 2, none⟩ (.string q1)).cell? ⟨g8, l * 2, none⟩ = some (.string q1) := by
                  rw [cell_set_at la1]; split <;> rfl
                have e1' : (w8.setCell ⟨g8, k * 2, none⟩ (.string q1)).cell? ⟨g8, l * 2 + 1, none⟩ = some (.string q2) := by
                  rw [cell_set_at la2, if_neg (by omega)]
                have e2 : ((w8.setCell ⟨g8, k * 2, none⟩ (.string q1)).setCell ⟨g8, k * 2 + 1, none⟩ (.string q2)).cell? ⟨g8, l * 2, none⟩ = some (.string q1) := by
                  rw [cell_set_at e1, if_neg (by omega)]
                have e3 : ((w8.setCell ⟨g8, k * 2, none⟩ (.string q1)).setCell ⟨g8, k * 2 + 1, none⟩ (.string q2)).cell? ⟨g8, l * 2 + 1, none⟩ = some (.string q2) := by
                  rw [cell_set_at e1']; split <;> rfl
                have e4 : (((w8.setCell ⟨g8, k * 2, none⟩ (.string q1)).setCell ⟨g8, k * 2 + 1, none⟩ (.string q2)).setCell ⟨g8, l * 2, none⟩ (.string p1)).cell? ⟨g8, l * 2 + 1, none⟩ = some (.string q2) := by
                  rw [cell_set_at e3, if_neg (by omega)]
                have HF9 := Lib.hid (show FilesAt (((((w8.setCell ⟨g8, k * 2, none⟩ (.string q1)).setCell ⟨g8, k * 2 + 1, none⟩ (.string q2)).setCell ⟨g8, l * 2, none⟩ (.string p1)).setCell ⟨g8, l * 2 + 1, none⟩ (.string p2))) (some ⟨g8, 0, none⟩) n c8 ((L.set k (L.getD l default)).set l (L.getD k default)) by
                  rw [hp1, hp2, hq1, hq2]
                  exact (HO8.out.isFiles.setFile k _ HK.out).setFile l _ HLN.out)
                have HD9 := Lib.hid (show Below wr.heap.size wr (((((w8.setCell ⟨g8, k * 2, none⟩ (.string q1)).setCell ⟨g8, k * 2 + 1, none⟩ (.string q2)).setCell ⟨g8, l * 2, none⟩ (.string p1)).setCell ⟨g8, l * 2 + 1, none⟩ (.string p2))) from
                  (((HD8.out.setCell (p := ⟨g8, k * 2, none⟩) hg8 _).setCell (p := ⟨g8, k * 2 + 1, none⟩) hg8 _).setCell (p := ⟨g8, l * 2, none⟩) hg8 _).setCell (p := ⟨g8, l * 2 + 1, none⟩) hg8 _)
                have HOK1 := Lib.hid (HOK.out.less k (by rw [HL.out]; exact HK.out))
                have HOK2 := Lib.hid (HOK.out.turned k l (by rw [HL.out]; exact HK.out) (by rw [HL.out]; exact HLN.out))
                clear hfz hp1 hp2 hq1 hq2
                go_region
                have HF10 := Lib.hid (show FilesAt (((((w8.setCell ⟨g8, k * 2, none⟩ (.string q1)).setCell ⟨g8, k * 2 + 1, none⟩ (.string q2)).setCell ⟨g8, l * 2, none⟩ (.string p1)).setCell ⟨g8, l * 2 + 1, none⟩ (.string p2)).drew) (some ⟨g8, 0, none⟩) n c8 ((L.set k (L.getD l default)).set l (L.getD k default)) from HF9.out)
                have HD10 := Lib.hid (show Below wr.heap.size wr (((((w8.setCell ⟨g8, k * 2, none⟩ (.string q1)).setCell ⟨g8, k * 2 + 1, none⟩ (.string q2)).setCell ⟨g8, l * 2, none⟩ (.string p1)).setCell ⟨g8, l * 2 + 1, none⟩ (.string p2)).drew) from below_drewG HD9.out 1)
                clear HF9 HD9 e1 e1' e2 e3 e4 f1 f2 f3 f4 ka1 ka2 la1 la2
                generalize ((((w8.setCell ⟨g8, k * 2, none⟩ (.string q1)).setCell ⟨g8, k * 2 + 1, none⟩ (.string q2)).setCell ⟨g8, l * 2, none⟩ (.string p1)).setCell ⟨g8, l * 2 + 1, none⟩ (.string p2)).drew = W9 at HF10 HD10 ⊢
                have HB9 := Lib.hid (HBW.out.trans (HD10.out.mono HBW.out.size))
                have HLS := Lib.hid (show FilesAt W9 av (lessL L k n).length cv (L.take k ++ L.drop (k + 1)) by
                  have := HAT10.out.below HD10.out
                  rw [HLESS.out] at this ⊢
                  exact this)
                have HLEN1 := Lib.hid (show (lessL L k n).length = (L.take k ++ L.drop (k + 1)).length by rw [HLESS.out])
                have Z1 := Lib.hid (fun W h hT => tree_is av (lessL L k n).length cv (L.take k ++ L.drop (k + 1)) 0 W h (fun j hj => HOK1.out.small j (by rw [← HLEN1.out]; exact hj)) hT ((tree_iff _).2 HOK1.out))
                have Z2 := Lib.hid (fun W h hT => tree_is (some ⟨g8, 0, none⟩) n c8 ((L.set k (L.getD l default)).set l (L.getD k default)) 0 W h (fun j hj => HOK2.out.small j (by rw [List.length_set, List.length_set, HL.out]; exact hj)) hT ((tree_iff _).2 HOK2.out))
                generalize (lessL L k n).length = mm at HLS Z1 ⊢
                go_wp2_with (first
                  | (go_at_call 28; (with_reducible refine (Z1.out _ HLS.out (HT.out.below HB9.out)).mono ?_); rintro e w10 ⟨rfl, hb10⟩; have HB10 := Lib.hid (Below.trans HB9.out (hb10.mono HB9.out.size)); have HF11 := Lib.hid (HF10.out.below hb10); clear hb10)
                  | (go_at_call 28; (with_reducible refine (Z2.out _ HF11.out (HT.out.below HB10.out)).mono ?_); rintro e w11 ⟨rfl, hb11⟩; have HB11 := Lib.hid (Below.trans HB10.out (hb11.mono HB10.out.size)); clear hb11)
                  | (go_at_call 21; (with_reducible refine (awake_any _ (HT.out.below HB11.out)).mono ?_); rintro e w12 ⟨rfl, hb12⟩; have HB12 := Lib.hid (Below.trans HB11.out (hb12.mono HB11.out.size)); clear hb12))
                go_ret
                exact ⟨rfl, HB12.out⟩
          · have hzb : ((z : Int) != 0) = true := by simp; omega
            clear hg hz
            go_wp2_with (first
              | (go_at_call 28; (with_reducible refine (T1.out _ HA.out HT.out).mono ?_); rintro e w5 ⟨rfl, hb5⟩; have HB5 := Lib.hid hb5; clear hb5)
              | (go_at_call 21; (with_reducible refine (awake_any _ (HT.out.below HB5.out)).mono ?_); rintro e w7 ⟨rfl, hb7⟩; have HB7 := Lib.hid (Below.step HB5.out hb7); clear hb7))
            go_ret
            exact ⟨rfl, HB7.out⟩
#print axioms pathFewer_any
end Go.Proofs.YtcahdlihoocplaaDoor
