/-
  The walk of the document's Tree.
-/
import Derived.Test.YtcahdlihoocplaaDoorTree
import Derived.Test.YtcahdlihoocplaaDoorPieces
import Derived.Test.YtcahdlihoocplaaDoorClashes
namespace Go.Proofs.YtcahdlihoocplaaDoor
open Go.RowKit

set_option maxRecDepth 100000 in
set_option maxHeartbeats 1000000 in
theorem refBytesAll (s : ByteArray) (z : Int) (w : World) (h : ((bytesF s.data.toList : Nat) : Int) = z) :
    Calls Tryd.prog 23 #[.string s] w fun e w' => e = .returned (.int .i64 z) ∧ Below w.heap.size w w' := by
  by_cases h1 : (4096 : Int) < (s.size : Int)
  · have HX := Lib.hid (show z = 2 by
      rw [← h]; unfold bytesF; rw [b_len, if_pos (by omega)]; rfl)
    clear h
    go_enter Tryd.func23, Tryd.ntmps23
    go_wp2
    go_ret
    exact ⟨by rw [HX.out]; rfl, Below.refl _ _⟩
  · exact refBytes7_is s z w (by omega) h

theorem ahead_snoc {L : List FileL} {i : Nat} (h : i < L.length) : aheadF L (i + 1) = aheadF L i ++ [(L.getD i default).1] := by
  unfold aheadF
  rw [List.take_succ_eq_append_getElem h, List.map_append]
  simp [h]
theorem ahead_len {L : List FileL} {i : Nat} (h : i ≤ L.length) : (aheadF L i).length = i := by unfold aheadF; simp; omega
theorem ahead_at {L : List FileL} {i j : Nat} (hj : j < i) (hi : i ≤ L.length) : (aheadF L i).getD j default = (L.getD j default).1 := by
  unfold aheadF
  have h1 : j < L.length := by omega
  simp [hj, h1]

set_option maxRecDepth 100000 in
set_option maxHeartbeats 2000000 in
theorem refTree_any (a : Option Addr) (n c : Nat) (L : List FileL) (w : World) (hA : FilesAt w a n c L) (hX : ∀ j, j < n → (L.getD j default).1.length ≤ 1000000000) :
    Calls Tryd.prog 29 #[.slice a n c] w fun e w' => e = .returned (.int .i64 (treeF L : Nat)) ∧ Below w.heap.size w w' := by
  obtain ⟨r, hr⟩ : ∃ r, r = treeF L := ⟨_, rfl⟩
  rw [← hr]
  have HR := Lib.hid hr
  have HA := Lib.hid hA
  have HL := Lib.hid hA.1
  have HX := Lib.hid hX
  clear hr hA hX
  by_cases h1 : (64 : Int) < (n : Int)
  · have HE := Lib.hid (show r = 3 by rw [HR.out]; exact tree_full (by rw [HL.out]; omega))
    go_enter Tryd.func29, Tryd.ntmps29
    go_wp2
    go_ret
    exact ⟨by rw [HE.out]; rfl, Below.refl _ _⟩
  · have HN := Lib.hid (show n ≤ 64 by omega)
    have H0 := Lib.hid (show ∀ j, j < 0 → fileE L j = 0 from fun j hj => by omega)
    have hnI : (n : Int) ≤ 64 := by omega
    go_enter Tryd.func29, Tryd.ntmps29
    go_wp2
    go_loopg [3, 4] n (fun g v3 v4 W => ∃ i : Nat, Below w.heap.size w W ∧ Own1 St 9 W w.heap.size v3 (aheadF L i) ∧ v4 = .int .i64 i ∧ g + i = n ∧ Hid (∀ j, j < i → fileE L j = 0))
    case atStart => exact ⟨0, Below.refl _ _, Own1.nil, rfl, rfl, H0⟩
    case round =>
      obtain ⟨i, hbw, hown, rfl, hg, hall⟩ := hrel
      have HG := Lib.hid hg
      have HBW := Lib.hid hbw
      have hi0 : (0 : Int) ≤ (i : Int) := by omega
      have hiI : (i : Int) ≤ (n : Int) := by omega
      by_cases hi : (i : Int) < (n : Int)
      · have hin : i < n := by omega
        obtain ⟨b, o, rfl⟩ := HA.out.some_ (by omega)
        obtain ⟨hc1, hc2⟩ := (HA.out.below hbw).cell i hin
        obtain ⟨x1, hx1⟩ : ∃ x, (L.getD i default).1 = x := ⟨_, rfl⟩
        obtain ⟨x2, hx2⟩ : ∃ x, (L.getD i default).2 = x := ⟨_, rfl⟩
        rw [hx1] at hc1
        rw [hx2] at hc2
        have s1 := HX.out i hin
        rw [hx1] at s1
        obtain ⟨aa, ca, hv3, hat3⟩ := hown.at1_
        rw [ahead_len (by rw [HL.out]; omega)] at hv3 hat3
        subst hv3
        obtain ⟨c1, h1'⟩ : ∃ c, pathF x1 = c := ⟨_, rfl⟩
        obtain ⟨z, h2'⟩ : ∃ z, bytesF x2 = z := ⟨_, rfl⟩
        obtain ⟨f, h3'⟩ : ∃ f, clashesF x1 (aheadF L i) = f := ⟨_, rfl⟩
        have P1 := Lib.hid (fun W => refPath_is (strB x1) c1 W (by rw [strB_size]; omega) (by rw [strB_list]; exact h1'))
        have P2 := Lib.hid (fun W => refBytesAll (strB x2) (z : Int) W (by rw [strB_list, h2']))
        have P3 : Hid (∀ W, Below wr.heap.size wr W → Calls Tryd.prog 46 #[.string (strB x1), .slice aa i ca] W fun e w' => e = .returned (.bool f) ∧ W = w') := Lib.hid (fun W hb => by
          have := refClashes_any (strB x1) aa i ca (aheadF L i) W (hat3.below hb) (by omega) (by rw [strB_size]; omega) (fun j hj => by rw [ahead_at hj (by rw [HL.out]; omega)]; have := HX.out j (by omega); omega)
          rw [strB_list, h3'] at this
          exact this)
        have E1 := Lib.hid (show pathF (L.getD i default).1 = c1 by rw [hx1]; exact h1')
        have E2 := Lib.hid (show bytesF (L.getD i default).2 = z by rw [hx2]; exact h2')
        have E3 := Lib.hid (show clashesF (L.getD i default).1 (aheadF L i) = f by rw [hx1]; exact h3')
        have HIN := Lib.hid hin
        have HTR := Lib.hid (fun e (he : fileE L i = e) (h0 : e ≠ 0) => tree_stop (by rw [HL.out]; exact HN.out) (by rw [HL.out]; exact hin) hall.out he h0)
        have HSN := Lib.hid (show aheadF L (i + 1) = aheadF L i ++ [(strB x1).data.toList] by rw [strB_list, ← hx1]; exact ahead_snoc (by rw [HL.out]; exact hin))
        have HAL := Lib.hid (show (aheadF L i).length = i from ahead_len (by rw [HL.out]; omega))
        generalize hp : strB x1 = p1 at hc1 P1 P3 HSN
        generalize hq : strB x2 = p2 at hc2 P2
        have HOWN := Lib.hid hown
        have d0 := hc1
        clear hx1 hx2 s1 h1' h2' h3' hp hq hg hat3 hown
        rcases c1
        · have HE := Lib.hid (show r = 10 by rw [HR.out]; exact HTR.out 10 (fileE_name E1.out) (by decide))
          go_wp2_with (first
            | (go_at_call 17; (with_reducible refine (P1.out _).mono ?_); rintro e w1 ⟨rfl, hb1⟩; have HB1 := Lib.hid (HBW.out.trans (hb1.mono HBW.out.size)); clear hb1))
          go_ret
          exact ⟨by rw [HE.out]; rfl, HB1.out⟩
        · by_cases hz : (z : Int) = 0
          · have hz0 : z = 0 := by omega
            subst hz0
            rcases f
            · have HN4 := Lib.hid (show ∀ k, k < i + 1 → fileE L k = 0 from fun k hk => by
                rcases Nat.lt_or_ge k i with h | h
                · exact hall.out k h
                · obtain rfl : k = i := by omega
                  exact fileE_ok E1.out E2.out E3.out)
              go_wp2_with (first
                | (go_at_call 17; (with_reducible refine (P1.out _).mono ?_); rintro e w1 ⟨rfl, hb1⟩; have e1 := cell_kept hc1 hb1; have e2 := cell_kept hc2 hb1; have HB1 := Lib.hid hb1; clear hb1)
                | (go_at_call 23; (with_reducible refine (P2.out _).mono ?_); rintro e w2 ⟨rfl, hb2⟩; have f1 := cell_kept e1 hb2; have HB2 := Lib.hid (Below.step HB1.out hb2); have HO2 := Lib.hid (HOWN.out.below HB2.out); have HBB := Lib.hid (HBW.out.trans (HB2.out.mono HBW.out.size)); clear hb2)
                | (go_at_call 46; (with_reducible refine (P3.out _ HB2.out).mono ?_); rintro e w3 ⟨rfl, rfl⟩)
                | ((with_reducible show wpList _ _ _ (⟨some 45, _, _, _, _, _⟩ :: _) _ _); go_must (refine app1 St (fun _ => rfl) Tryd.underlying24 infoSt rfl rfl (.tmp 38) (.tmp 44) rfl w.heap.size _ (aheadF L i) rfl (HO2.out.alloc _) _ 1 1 [p1.data.toList] rfl (one_str _ _ _) (by have := HAL.out; have := HN.out; have := HIN.out; omega) (by have := HBB.out.size; simp; omega) (i + 1) (by rw [HAL.out]) ?_); intro a5 c5 w5 hown5 hgr5; have HB5 := Lib.hid ((HBB.out.alloc HBB.out.size (.cells #[.string p1] 9)).grown hgr5 (by have := HBB.out.size; simp; omega) (fun q hq => (HO2.out.lt q hq).1)); have HO5 := Lib.hid hown5; clear hgr5 hown5))
              go_roundg (gk - 1)
              case measure => have := HG.out; have := HIN.out; omega
              case rel => exact ⟨i + 1, HB5.out, by rw [HSN.out]; exact HO5.out, by go_num, by have := HG.out; have := HIN.out; omega, HN4⟩
            · have HE := Lib.hid (show r = 11 by rw [HR.out]; exact HTR.out 11 (fileE_there E1.out E2.out E3.out) (by decide))
              go_wp2_with (first
                | (go_at_call 17; (with_reducible refine (P1.out _).mono ?_); rintro e w1 ⟨rfl, hb1⟩; have e1 := cell_kept hc1 hb1; have e2 := cell_kept hc2 hb1; have HB1 := Lib.hid hb1; clear hb1)
                | (go_at_call 23; (with_reducible refine (P2.out _).mono ?_); rintro e w2 ⟨rfl, hb2⟩; have f1 := cell_kept e1 hb2; have HB2 := Lib.hid (Below.step HB1.out hb2); have HBB := Lib.hid (HBW.out.trans (HB2.out.mono HBW.out.size)); clear hb2)
                | (go_at_call 46; (with_reducible refine (P3.out _ HB2.out).mono ?_); rintro e w3 ⟨rfl, rfl⟩))
              go_ret
              exact ⟨by rw [HE.out]; rfl, HBB.out⟩
          · have hzb : ((z : Int) != 0) = true := by simp; omega
            have HE := Lib.hid (show r = z by rw [HR.out]; exact HTR.out z (fileE_bytes E1.out E2.out (by omega)) (by omega))
            go_wp2_with (first
              | (go_at_call 17; (with_reducible refine (P1.out _).mono ?_); rintro e w1 ⟨rfl, hb1⟩; have e1 := cell_kept hc1 hb1; have e2 := cell_kept hc2 hb1; have HB1 := Lib.hid hb1; clear hb1)
              | (go_at_call 23; (with_reducible refine (P2.out _).mono ?_); rintro e w2 ⟨rfl, hb2⟩; have HB2 := Lib.hid (Below.step HB1.out hb2); have HBB := Lib.hid (HBW.out.trans (HB2.out.mono HBW.out.size)); clear hb2))
            go_ret
            exact ⟨by rw [HE.out]; rfl, HBB.out⟩
      · have HE := Lib.hid (show r = 0 by rw [HR.out]; exact tree_done (by rw [HL.out]; exact HN.out) (fun j hj => hall.out j (by rw [HL.out] at hj; omega)))
        clear hg
        go_wp2
        go_ret
        exact ⟨by rw [HE.out]; rfl, HBW.out⟩
#print axioms refTree_any
end Go.Proofs.YtcahdlihoocplaaDoor
