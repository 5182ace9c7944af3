/-
  The walk of the document's Name.
-/
import Derived.Test.YtkhcoefcifaaeaaDoorGrp8
import Derived.Test.YtkhcoefcifaaeaaDoorGrp1
namespace Go.Proofs.YtkhcoefcifaaeaaDoor
open Go.RowKit

set_option maxRecDepth 100000 in
set_option maxHeartbeats 1000000 in
theorem unhex_short (s : ByteArray) (w : World) (h : s.size ≠ 64) :
    Calls Tryd.prog 21 #[.string s] w fun e w' => e = .returned (.tuple #[.agg (idCells idZero), .bool false]) ∧ Below w.heap.size w w' := by
  have hf : ((s.size : Int) != 64) = true := by rw [bne_iff_ne]; omega
  clear h
  go_enter Tryd.func21, Tryd.ntmps21
  go_wp2_with (first
    | ((with_reducible show wpList _ _ _ (⟨some 2, _, _, _, _, _⟩ :: _) _ _); refine alloc_id rfl rfl ?_; intro w2 hid2 hbel2 hsz2; have HS2 := Lib.hid hsz2; clear hsz2)
    | ((with_reducible show wpList _ _ _ (⟨some 4, _, _, _, _, _⟩ :: _) _ _); refine alloc_id rfl rfl ?_; intro w4 hid4 hbel4 hsz4; have e2 := hid2.below hbel4; have hb4 : Below w.heap.size w w4 := hbel2.trans (hbel4.mono hbel2.size))
    | ((with_reducible show wpList _ _ _ (⟨some 11, _, _, _, _, _⟩ :: _) _ _); refine load_id rfl (.tmp 4) rfl _ _ rfl hid4 ?_)
    | ((with_reducible show wpList _ _ _ (⟨none, .store 24 _ _, _, _, _, _⟩ :: _) _ _); refine store_id rfl (.tmp 2) (.tmp 11) rfl _ _ idZero rfl rfl e2 idZero_length ?_; intro w9 hid9 hgr9 hsz9))
  exact bodyPost_ret (results_id2 rfl _ _ w.heap.size idZero rfl hid9) rfl ⟨rfl, hb4.grown hgr9 hb4.size (fun k hk => by simp at hk; omega)⟩
#print axioms unhex_short

set_option maxRecDepth 100000 in
set_option maxHeartbeats 1000000 in
theorem refName_any (s : ByteArray) (w : World) :
    Calls Tryd.prog 38 #[.string s] w fun e w' => e = .returned (.bool (nameF s.data.toList)) ∧ Below w.heap.size w w' := by
  obtain ⟨r, hr⟩ : ∃ r, r = nameF s.data.toList := ⟨_, rfl⟩
  rw [← hr]
  rw [nameF_eq, b_len] at hr
  by_cases h1 : (s.size : Int) < 1
  · have HX := Lib.hid (show r = false by rw [hr, decide_eq_false (p := 1 ≤ s.size) (by omega)]; rfl)
    clear hr
    go_enter Tryd.func38, Tryd.ntmps38
    go_wp2
    go_ret
    exact ⟨retBl HX.out.symm, Below.refl _ _⟩
  · by_cases h2 : (32 : Int) < (s.size : Int)
    · have HX := Lib.hid (show r = false by rw [hr, decide_eq_false (p := s.size ≤ 32) (by omega)]; simp)
      clear hr
      go_enter Tryd.func38, Tryd.ntmps38
      go_wp2
      go_ret
      exact ⟨retBl HX.out.symm, Below.refl _ _⟩
    · have h0 : 0 < s.size := by omega
      have h0I : (0 : Int) < (s.size : Int) := by omega
      have hat := b_at s 0 h0
      have hr2 : r = (s.data.toList.all nmB && s.data.toList.getD 0 0 != 46 && s.data.toList.getD 0 0 != 45 && s.data.toList != [72, 69, 65, 68]) := by
        rw [hr, decide_eq_true (p := 1 ≤ s.size) (by omega), decide_eq_true (p := s.size ≤ 32) (by omega)]; rfl
      clear hr
      obtain ⟨q, hq⟩ : ∃ q, q = (s.toList == [72, 69, 65, 68]) := ⟨_, rfl⟩
      have hq2 : (s.data.toList != [72, 69, 65, 68]) = !q := by rw [hq, Lib.toList_data]; rfl
      rw [hq2] at hr2
      have hqs := hq.symm
      clear hq hq2
      rcases q
      · by_cases g1 : ((s[0]'h0).toNat : Int) = 46
        · have HX := Lib.hid (show r = false by
            rw [hr2, ← hat, show (s[0]'h0) = 46 from by apply UInt8.toNat_inj.1; show (s[0]'h0).toNat = 46; omega]; simp)
          clear hr2 hat
          go_enter Tryd.func38, Tryd.ntmps38
          go_wp2
          go_ret
          exact ⟨retBl HX.out.symm, Below.refl _ _⟩
        · have n1 : ((s[0]'h0) != 46) = true := by rw [bne_iff_ne]; intro e; apply g1; rw [e]; rfl
          have g3 : (((s[0]'h0).toNat : Int) == 46) = false := by rw [beq_eq_false_iff_ne]; exact g1
          by_cases g2 : ((s[0]'h0).toNat : Int) = 45
          · have HX := Lib.hid (show r = false by
              rw [hr2, ← hat, show (s[0]'h0) = 45 from by apply UInt8.toNat_inj.1; show (s[0]'h0).toNat = 45; omega]; simp)
            clear hr2 hat
            go_enter Tryd.func38, Tryd.ntmps38
            go_wp2
            go_ret
            exact ⟨retBl HX.out.symm, Below.refl _ _⟩
          · have n2 : ((s[0]'h0) != 45) = true := by rw [bne_iff_ne]; intro e; apply g2; rw [e]; rfl
            have g4 : (((s[0]'h0).toNat : Int) == 45) = false := by rw [beq_eq_false_iff_ne]; exact g2
            have HX := Lib.hid (show r = s.data.toList.all nmB by rw [hr2, ← hat, n1, n2]; simp)
            have HA := Lib.hid (show (s.data.toList.take 0).all nmB = true from rfl)
            have HU := Lib.hid (fun w => unhex_short s w (by omega))
            clear hr2 hat n1 n2
            go_enter Tryd.func38, Tryd.ntmps38
            go_wp2
            go_loopg [3] s.size (fun g v3 W => ∃ (p : Nat), w = W ∧ v3 = .int .i64 p ∧ g + p = s.size ∧ Hid ((s.data.toList.take p).all nmB = true))
            case atStart => exact ⟨0, rfl, rfl, rfl, HA⟩
            case round =>
              obtain ⟨p, rfl, rfl, hg, hall⟩ := hrel
              have HG := Lib.hid hg
              have hpI : (p : Int) ≤ (s.size : Int) := by omega
              by_cases hp : (p : Int) < (s.size : Int)
              · have hpn : p < s.size := by omega
                have hpl : p < s.data.toList.length := by rw [b_len]; exact hpn
                have hat := b_at s p hpn
                have HCI := Lib.hid (nameC_iff ((s[p]'hpn).toNat))
                have HPL := Lib.hid hpl
                have HAT := Lib.hid hat
                clear hg hpl hat
                by_cases x45 : ((s[p]'hpn).toNat : Int) = 45
                · go_wp2
                  all_goals first
                    | (exfalso; simp only [Bool.not_eq_eq_eq_not, Bool.not_false, Bool.not_true, decide_eq_true_eq, decide_eq_false_iff_not] at *; omega)
                    | (go_ret
                       refine ⟨retBl ?_, Below.refl _ _⟩
                       rw [HX.out]
                       symm
                       refine all_no HPL.out ?_
                       unfold nmB
                       rw [← HAT.out, Bool.eq_false_iff]
                       intro h
                       have := HCI.out.1 h
                       omega)
                    | (go_roundg (gk - 1)
                       case measure => have := HG.out; omega
                       case rel =>
                         refine ⟨p + 1, rfl, by go_num, by have := HG.out; omega, Lib.hid ?_⟩
                         rw [take_all HPL.out, hall.out]
                         unfold nmB
                         rw [← HAT.out, HCI.out.2 (by omega)]
                         rfl)
                · by_cases x95 : ((s[p]'hpn).toNat : Int) = 95
                  · go_wp2
                    all_goals first
                      | (exfalso; simp only [Bool.not_eq_eq_eq_not, Bool.not_false, Bool.not_true, decide_eq_true_eq, decide_eq_false_iff_not] at *; omega)
                      | (go_ret
                         refine ⟨retBl ?_, Below.refl _ _⟩
                         rw [HX.out]
                         symm
                         refine all_no HPL.out ?_
                         unfold nmB
                         rw [← HAT.out, Bool.eq_false_iff]
                         intro h
                         have := HCI.out.1 h
                         omega)
                      | (go_roundg (gk - 1)
                         case measure => have := HG.out; omega
                         case rel =>
                           refine ⟨p + 1, rfl, by go_num, by have := HG.out; omega, Lib.hid ?_⟩
                           rw [take_all HPL.out, hall.out]
                           unfold nmB
                           rw [← HAT.out, HCI.out.2 (by omega)]
                           rfl)
                  · by_cases x46 : ((s[p]'hpn).toNat : Int) = 46
                    · go_wp2
                      all_goals first
                        | (exfalso; simp only [Bool.not_eq_eq_eq_not, Bool.not_false, Bool.not_true, decide_eq_true_eq, decide_eq_false_iff_not] at *; omega)
                        | (go_ret
                           refine ⟨retBl ?_, Below.refl _ _⟩
                           rw [HX.out]
                           symm
                           refine all_no HPL.out ?_
                           unfold nmB
                           rw [← HAT.out, Bool.eq_false_iff]
                           intro h
                           have := HCI.out.1 h
                           omega)
                        | (go_roundg (gk - 1)
                           case measure => have := HG.out; omega
                           case rel =>
                             refine ⟨p + 1, rfl, by go_num, by have := HG.out; omega, Lib.hid ?_⟩
                             rw [take_all HPL.out, hall.out]
                             unfold nmB
                             rw [← HAT.out, HCI.out.2 (by omega)]
                             rfl)
                    · have y45 : (((s[p]'hpn).toNat : Int) == 45) = false := by rw [beq_eq_false_iff_ne]; exact x45
                      have y95 : (((s[p]'hpn).toNat : Int) == 95) = false := by rw [beq_eq_false_iff_ne]; exact x95
                      have y46 : (((s[p]'hpn).toNat : Int) == 46) = false := by rw [beq_eq_false_iff_ne]; exact x46
                      go_wp2
                      all_goals first
                        | (exfalso; simp only [Bool.not_eq_eq_eq_not, Bool.not_false, Bool.not_true, decide_eq_true_eq, decide_eq_false_iff_not] at *; omega)
                        | (go_ret
                           refine ⟨retBl ?_, Below.refl _ _⟩
                           rw [HX.out]
                           symm
                           refine all_no HPL.out ?_
                           unfold nmB
                           rw [← HAT.out, Bool.eq_false_iff]
                           intro h
                           have := HCI.out.1 h
                           omega)
                        | (go_roundg (gk - 1)
                           case measure => have := HG.out; omega
                           case rel =>
                             refine ⟨p + 1, rfl, by go_num, by have := HG.out; omega, Lib.hid ?_⟩
                             rw [take_all HPL.out, hall.out]
                             unfold nmB
                             rw [← HAT.out, HCI.out.2 (by omega)]
                             rfl)
              · have HE := Lib.hid (show s.data.toList.all nmB = true by
                  have := hall.out
                  rw [List.take_of_length_le (by rw [b_len]; omega)] at this
                  exact this)
                clear hg
                go_wp2_with (first
                  | (go_at_call 21; (with_reducible refine (HU.out _).mono ?_); rintro e w1 ⟨rfl, hb1⟩; have HB1 := Lib.hid hb1; clear hb1)
                  | ((with_reducible show wpList _ _ _ (⟨some 5, _, _, _, _, _⟩ :: _) _ _); refine alloc_id rfl rfl ?_; intro w5 hid5 hbel5 hsz5; have HB5 := Lib.hid hbel5; have HI5 := Lib.hid hid5; clear hsz5 hbel5 hid5)
                  | ((with_reducible show wpList _ _ _ (⟨none, .store 24 _ _, _, _, _, _⟩ :: _) _ _); refine store_id rfl (.tmp 5) (.tmp 76) rfl _ _ idZero rfl rfl HI5.out idZero_length ?_; intro w9 hid9 hgr9 hsz9; have HB9 := Lib.hid ((HB1.out.trans (HB5.out.mono HB1.out.size)).grown hgr9 (Nat.le_trans HB1.out.size HB5.out.size) (fun k hk => by cases hk; exact HB1.out.size)); clear hid9 hgr9 hsz9))
                go_ret
                exact ⟨retBl (by rw [HX.out, HE.out]), HB9.out⟩
      · have HX := Lib.hid (show r = false by rw [hr2]; simp)
        clear hr2 hat
        go_enter Tryd.func38, Tryd.ntmps38
        go_wp2
        go_ret
        exact ⟨retBl HX.out.symm, Below.refl _ _⟩
#print axioms refName_any
end Go.Proofs.YtkhcoefcifaaeaaDoor
