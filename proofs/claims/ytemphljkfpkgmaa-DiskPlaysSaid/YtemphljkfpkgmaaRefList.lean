/-
  The reference's List and Texts walked.
-/
import Derived.Test.YtemphljkfpkgmaaRefRead
import Derived.Test.YtemphljkfpkgmaaDkNamesAll
namespace Go.Proofs.Ytemphljkfpkgmaa
open Go.RowKit

theorem names_take {L : Dir} {i : Nat} (hi : i < L.length) : names (L.take (i + 1)) = names (L.take i) ++ [(gd L i).1] := by
  have e : gd L i = L[i] := by unfold gd; simp [hi]
  rw [e]
  unfold names
  rw [List.take_succ_eq_append_getElem hi, List.map_append]
  rfl
theorem names_len (L : Dir) (i : Nat) : (names (L.take i)).length ≤ i := by unfold names; simp; omega
theorem one_nm (w : World) (s : Nm) : At1 St (w.alloc (.cells #[.string (strB s)] 9)) (some ⟨w.heap.size, 0, none⟩) 1 1 [s] := by
  have := one_str w (strB s)
  rwa [strB_list] at this
/-- What List tells. -/
def listR (V : RVal) (S : DS) : List Nm := if V.made && !S.down then names S.now else []
set_option maxRecDepth 100000 in
set_option maxHeartbeats 1000000 in
theorem refList_any (V : RVal) (S : DS) (w : World) (h : AtG entK w V.an V.nn V.cn S.now) (hsz : S.now.length ≤ 1000000) :
    Calls Try.prog 11 #[.agg (refC V S)] w (NamesEnd w (listR V S)) := by
  have HN := Lib.hid h
  have HL := Lib.hid h.1
  have hnI : (V.nn : Int) ≤ 1000000 := by have := h.1; omega
  clear h hsz
  go_enter Try.func11, Try.ntmps11
  go_wp2_with (refine box_row rfl 31 (.tmp 0) (refL V S) rfl rfl ?_; intro w1 hr1 hb1 _; have HR := Lib.hid hr1; have HB := Lib.hid hb1; clear hb1 hr1)
  go_loopg [3, 4] V.nn (fun g v3 v4 W => ∃ (i : Nat) (a1 : Option Addr) (m c1 : Nat), Below w1.heap.size w1 W ∧ v3 = .slice a1 m c1 ∧ v4 = .int .i64 i ∧ g + i = V.nn ∧ Hid (Own1 St 9 W w1.heap.size (.slice a1 m c1) (names (S.now.take i))) ∧ Hid (V.made = false ∨ S.down = true → i = 0))
  case atStart => exact ⟨0, none, 0, 0, Below.refl _ _, rfl, rfl, rfl, Lib.hid Own1.nil, Lib.hid (fun _ => rfl)⟩
  case round =>
    obtain ⟨i, a1, m, c1, hbw, rfl, rfl, hg, HO, HZ⟩ := hrel
    have HG := Lib.hid hg
    have HB1 := Lib.hid hbw
    have HB2 := Lib.hid (HB.out.trans (hbw.mono HB.out.size))
    have HF := Lib.hid (show ∀ (L : List Nm), names (S.now.take i) = L → NamesEnd w L (.returned (.slice a1 m c1)) wr from fun L hL => by
      have h1 := HO.out.len
      rw [hL] at h1
      have h2 := HO.out.at1
      rw [hL, ← h1] at h2
      refine ⟨a1, c1, by rw [h1], h2, HB2.out, fun g off e => Nat.le_trans HB.out.size (HO.out.lt g (by rw [e]; rfl)).1⟩)
    have hi0 : (0 : Int) ≤ (i : Int) := by omega
    have hiI : (i : Int) ≤ (V.nn : Int) := by omega
    obtain ⟨k0, k1, k2, k3, k4, k5, k6, k7, k8, k9⟩ := RBox.cells (RBox.below HR.out hbw)
    clear k1 k2 k3 k5 k6 k7 k8
    by_cases hi : (i : Int) < (V.nn : Int)
    · have hin : i < V.nn := by omega
      have HIn := Lib.hid hin
      cases hmd : V.made with
      | false =>
        rw [hmd] at k0
        have HF2 := Lib.hid (show NamesEnd w (listR V S) (.returned (.slice a1 m c1)) wr from HF.out _ (by have := HZ.out (.inl hmd); subst this; unfold listR; rw [hmd]; rfl))
        clear hg hin hmd
        go_wp2
        go_ret
        exact HF2.out
      | true =>
        rw [hmd] at k0
        cases hdn : S.down with
        | true =>
          rw [hdn] at k9
          have HF2 := Lib.hid (show NamesEnd w (listR V S) (.returned (.slice a1 m c1)) wr from HF.out _ (by have := HZ.out (.inr hdn); subst this; unfold listR; rw [hmd, hdn]; rfl))
          clear hg hin hmd hdn
          go_wp2
          go_ret
          exact HF2.out
        | false =>
          rw [hdn] at k9
          have HZ2 := Lib.hid (show V.made = false ∨ S.down = true → i + 1 = 0 from fun h => by rcases h with h | h <;> simp_all)
          have hnow := HN.out.below HB2.out
          obtain ⟨b, o, hbo⟩ := hnow.some_ (by omega)
          rw [hbo] at hnow k4
          have c0 := hnow.cell i hin 0 (.string (strB (gd S.now i).1)) rfl
          have hk2 : entK.k = 2 := rfl
          rw [hk2, Nat.add_zero] at c0
          have HT := Lib.hid (names_take (show i < S.now.length by rw [HL.out]; exact hin))
          obtain ⟨t, ht⟩ : ∃ t, (gd S.now i).1 = t := ⟨_, rfl⟩
          rw [ht] at c0 HT
          have H48 := Lib.hid (show ((names (S.now.take i)).length + 1) * (16 + 1) ≤ 140737488355328 by have := names_len S.now i; omega)
          have HML := Lib.hid (show m + 1 = (names (S.now.take i)).length + 1 by rw [HO.out.len])
          clear hg hin hmd hdn hnow hbo hk2 ht
          go_wp2_with (at_builtin; go_must (refine app1 St (fun _ => rfl) Try.underlying40 infoSt rfl rfl _ _ rfl w1.heap.size _ (names (S.now.take i)) rfl (HO.out.alloc _) _ 1 1 [t] rfl (one_nm _ t) H48.out (Nat.le_trans HB1.out.size (by simp)) (m + 1) HML.out ?_); intro a2 c2 W7 ho2 hg2)
          go_roundg (V.nn - (i + 1))
          case measure => have := HG.out; have := HIn.out; omega
          case rel => exact ⟨i + 1, a2, m + 1, c2, (HB1.out.alloc HB1.out.size _).grown hg2 (Nat.le_trans HB1.out.size (by simp)) (fun q hq => (HO.out.lt q hq).1), rfl, by go_num, by have := HG.out; have := HIn.out; omega, Lib.hid (by rw [HT.out]; exact ho2), HZ2⟩
    · have HF2 := Lib.hid (show NamesEnd w (listR V S) (.returned (.slice a1 m c1)) wr from HF.out _ (by
        have him : i = V.nn := by omega
        unfold listR
        by_cases hb : (V.made && !S.down) = true
        · rw [if_pos hb, List.take_of_length_le (by rw [HL.out]; omega)]
        · rw [if_neg hb]
          have h0 := HZ.out (by cases h1 : V.made <;> cases h2 : S.down <;> simp_all)
          rw [h0]
          rfl))
      clear hg
      go_wp2
      go_ret
      exact HF2.out
#print axioms refList_any
end Go.Proofs.Ytemphljkfpkgmaa
