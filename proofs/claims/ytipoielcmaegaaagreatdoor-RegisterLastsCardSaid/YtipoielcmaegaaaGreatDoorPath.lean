/-
  The walks of Path, and of the document's Path and Parts.
-/
import Derived.Test.YtipoielcmaegaaaGreatDoorParts
import Derived.Laws.Cover3
namespace Go.Proofs.YtipoielcmaegaaaGreatDoor
open Go.RowKit

set_option maxRecDepth 100000 in
set_option maxHeartbeats 400000 in
theorem path_any (s : ByteArray) (w : World) (hs : s.size ≤ 140737488355328) (hT : Tabs w) :
    Calls Tryz.prog 35 #[.string s] w fun e w' => e = .returned (.bool (pathF s.data.toList)) ∧ Below w.heap.size w w' := by
  obtain ⟨r, hr⟩ : ∃ r, r = pathF s.data.toList := ⟨_, rfl⟩
  rw [← hr]
  have H1 := Lib.hid (parts_any s w hs hT)
  have HR := Lib.hid hr
  clear hr hs hT
  go_enter Tryz.func35, Tryz.ntmps35
  go_wp2_with (go_at_call 51; (with_reducible refine H1.out.mono ?_); rintro e w1 ⟨a, n, c, rfl, ho, ha, hb⟩; rw [← HR.out] at ha; have HA := Lib.hid ha; have HB := Lib.hid hb; clear ho ha hb)
  all_goals
    go_ret
    refine ⟨retBl ?_, HB.out⟩
    first
      | (rw [← HA.out]; done)
      | (rw [← HA.out]; cases a <;> rfl)

theorem path_is (s : ByteArray) (c : Bool) (w : World) (hs : s.size ≤ 140737488355328) (hT : Tabs w) (h : pathF s.data.toList = c) :
    Calls Tryz.prog 35 #[.string s] w fun e w' => e = .returned (.bool c) ∧ Below w.heap.size w w' := by subst h; exact path_any s w hs hT

set_option maxRecDepth 100000 in
set_option maxHeartbeats 1000000 in
theorem refPath_any (s : ByteArray) (w : World) (hs : s.size ≤ 20000000000) :
    Calls Tryz.prog 18 #[.string s] w fun e w' => e = .returned (.bool (pathF s.data.toList)) ∧ Below w.heap.size w w' := by
  obtain ⟨sl, hsl⟩ : ∃ sl, sl = s.data.toList := ⟨_, rfl⟩
  have hlen : sl.length = s.size := by rw [hsl]; exact b_len s
  obtain ⟨c3, h3⟩ : ∃ c, runesOk s.data.toList = c := ⟨_, rfl⟩
  have H3 := Lib.hid (runes_is s c3 w hs h3)
  have hpf : pathF sl = (decide (1 ≤ s.size) && decide (s.size ≤ 64) && c3 && goodParts (pcs sl)) := by
    unfold pathF; rw [hlen, hsl, h3]
  rw [← hsl]
  have HSL := Lib.hid hsl
  clear hsl hlen h3 hs
  by_cases h1 : (s.size : Int) < 1
  · have HX := Lib.hid (show pathF sl = false by rw [hpf, decide_eq_false (p := 1 ≤ s.size) (by omega)]; rfl)
    clear hpf
    go_enter Tryz.func18, Tryz.ntmps18
    go_wp2
    go_ret
    exact ⟨retBl HX.out.symm, Below.refl _ _⟩
  · by_cases h2 : (64 : Int) < (s.size : Int)
    · have HX := Lib.hid (show pathF sl = false by rw [hpf, decide_eq_false (p := s.size ≤ 64) (by omega)]; simp)
      clear hpf
      go_enter Tryz.func18, Tryz.ntmps18
      go_wp2
      go_ret
      exact ⟨retBl HX.out.symm, Below.refl _ _⟩
    · have HP := Lib.hid (show pathF sl = (c3 && goodParts (pcs sl)) by rw [hpf, decide_eq_true (p := 1 ≤ s.size) (by omega), decide_eq_true (p := s.size ≤ 64) (by omega)]; simp)
      have HPC := Lib.hid (fun w => pieces_any s w (by omega))
      have hml : (pcs sl).length ≤ 65 := by have := pcs_length sl; rw [HSL.out, b_len] at this; rw [HSL.out]; omega
      have HML := Lib.hid hml
      rw [← HSL.out] at HPC
      clear hpf hml
      rcases c3
      · have HX := Lib.hid (show pathF sl = false by rw [HP.out]; rfl)
        go_enter Tryz.func18, Tryz.ntmps18
        go_wp2_with (go_at_call 33; (with_reducible refine H3.out.mono ?_); rintro e w1 ⟨rfl, hb1⟩)
        go_ret
        exact ⟨retBl HX.out.symm, hb1⟩
      · have HG0 := Lib.hid (show goodParts ((pcs sl).take 0) = true from rfl)
        go_enter Tryz.func18, Tryz.ntmps18
        go_wp2_with (first
          | (go_at_call 33; (with_reducible refine H3.out.mono ?_); rintro e w1 ⟨rfl, hb1⟩)
          | (go_at_call 34; (with_reducible refine (HPC.out _).mono ?_); rintro e w4 ⟨a4, m, c4, rfl, ho4, hb4⟩; have HB4 := Lib.hid (Below.step hb1 hb4); have HO4 := Lib.hid ho4; have HM := Lib.hid ho4.len; have hmI : (m : Int) ≤ 65 := (by have := HM.out; have := HML.out; omega); clear ho4 hb4))
        go_loopg [4] m (fun g v4 W => ∃ j : Nat, w4 = W ∧ v4 = .int .i64 j ∧ g + j = m ∧ Hid (goodParts ((pcs sl).take j) = true))
        case atStart => exact ⟨0, rfl, rfl, rfl, HG0⟩
        case round =>
          obtain ⟨j, rfl, rfl, hg, hgood⟩ := hrel
          have HG := Lib.hid hg
          have hjI : (j : Int) ≤ (m : Int) := by omega
          have HA4 := Lib.hid HO4.out.at1
          by_cases hj : (j : Int) < (m : Int)
          · have hjm : j < m := by omega
            obtain ⟨b, o, rfl⟩ := HA4.out.some_ (by omega)
            obtain ⟨x, hx⟩ : ∃ x, x = (pcs sl).getD j default := ⟨_, rfl⟩
            have hc : w4.cell? ⟨b, o + j, none⟩ = some (.string (strB x)) := by rw [hx]; exact HA4.out.cell j hjm
            have hbad : badPart x = ((x == []) || (x == [46]) || (x == [46, 46])) := rfl
            obtain ⟨q0, hq0⟩ : ∃ q, (x == ([] : List UInt8)) = q := ⟨_, rfl⟩
            obtain ⟨q1, hq1⟩ : ∃ q, (x == [(46 : UInt8)]) = q := ⟨_, rfl⟩
            obtain ⟨q2, hq2⟩ : ∃ q, (x == [(46 : UInt8), 46]) = q := ⟨_, rfl⟩
            have e0 : ((strB x).toList == []) = q0 := by rw [Lib.toList_data, strB_list]; exact hq0
            have e1 : ((strB x).toList == [46]) = q1 := by rw [Lib.toList_data, strB_list]; exact hq1
            have e2 : ((strB x).toList == [46, 46]) = q2 := by rw [Lib.toList_data, strB_list]; exact hq2
            rw [hq0, hq1, hq2] at hbad
            have HBAD := Lib.hid hbad
            have HX := Lib.hid hx
            have HJM := Lib.hid (show j < (pcs sl).length by rw [HM.out]; exact hjm)
            generalize hS : strB x = xs at hc e0 e1 e2
            clear hbad hq0 hq1 hq2 hS hx hg hjm
            by_cases hany : (q0 || q1 || q2) = true
            · have HNO := Lib.hid (show pathF sl = false from pathF_no (good_no HJM.out (by rw [← HX.out, HBAD.out]; exact hany)))
              rcases q0 <;> rcases q1 <;> rcases q2
              · simp at hany
              all_goals
                clear hany
                go_wp2
                go_ret
                exact ⟨retBl HNO.out.symm, HB4.out⟩
            · have hq : q0 = false ∧ q1 = false ∧ q2 = false := by
                have : (q0 = false ∧ q1 = false) ∧ q2 = false := by simpa using hany
                exact ⟨this.1.1, this.1.2, this.2⟩
              obtain ⟨rfl, rfl, rfl⟩ := hq
              have HN2 := Lib.hid (good_next HJM.out hgood.out (by rw [← HX.out, HBAD.out]; rfl))
              clear hany
              go_wp2
              go_roundg (gk - 1)
              case measure => have := HG.out; have := HJM.out; have := HM.out; omega
              case rel => exact ⟨j + 1, rfl, by go_num, by have := HG.out; have := HJM.out; have := HM.out; omega, HN2⟩
          · have HE := Lib.hid (show pathF sl = true by
              have h1 := hgood.out
              rw [List.take_of_length_le (by have := HM.out; omega)] at h1
              rw [HP.out, h1]; rfl)
            clear hg
            go_wp2
            go_ret
            exact ⟨retBl HE.out.symm, HB4.out⟩
theorem refPath_is (s : ByteArray) (c : Bool) (w : World) (hs : s.size ≤ 20000000000) (h : pathF s.data.toList = c) :
    Calls Tryz.prog 18 #[.string s] w fun e w' => e = .returned (.bool c) ∧ Below w.heap.size w w' := by subst h; exact refPath_any s w hs

end Go.Proofs.YtipoielcmaegaaaGreatDoor
