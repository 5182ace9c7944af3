/-
  The walk of Tree.
-/
import Derived.Test.YtcahdlihoocplaaDoorFiles
import Derived.Test.YtcahdlihoocplaaDoorPathAwake
import Derived.Test.YtcahdlihoocplaaDoorPathJoins
import Derived.Test.YtcahdlihoocplaaDoorPathLaws1
import Derived.WalkMore
namespace Go.Proofs.YtcahdlihoocplaaDoor
open Go.RowKit

theorem retE {a b : Nat} (h : a = b) : Ending.returned (.int .i64 (a : Int)) = .returned (.int .i64 (b : Int)) := by rw [h]

set_option maxRecDepth 100000 in
set_option maxHeartbeats 2000000 in
theorem tree_any (a : Option Addr) (n c : Nat) (L : List FileL) (w : World) (hA : FilesAt w a n c L) (hX : ∀ j, j < n → (L.getD j default).1.length ≤ 140737488355328 ∧ (L.getD j default).2.length ≤ 140737488355328) (hT : PTabs w) :
    Calls Tryd.prog 28 #[.slice a n c] w fun e w' => e = .returned (.int .i64 (treeF L : Nat)) ∧ Below w.heap.size w w' := by
  obtain ⟨r, hr⟩ : ∃ r, r = treeF L := ⟨_, rfl⟩
  rw [← hr]
  have HR := Lib.hid hr
  have HA := Lib.hid hA
  have HL := Lib.hid hA.1
  have HX := Lib.hid hX
  have HT := Lib.hid hT
  clear hr hA hX hT
  by_cases h1 : (64 : Int) < (n : Int)
  · have HE := Lib.hid (show r = 3 by rw [HR.out]; exact tree_full (by rw [HL.out]; omega))
    go_enter Tryd.func28, Tryd.ntmps28
    go_wp2
    go_step3
    go_wp2
    rw [Exit.noGoto_ret]
    go_ret
    exact ⟨by rw [HE.out]; rfl, Below.refl _ _⟩
  · have HN := Lib.hid (show n ≤ 64 by omega)
    have H0 := Lib.hid (show ∀ j, j < 0 → fileE L j = 0 from fun j hj => by omega)
    go_enter Tryd.func28, Tryd.ntmps28
    go_wp2
    go_step3
    go_wp2
    go_step3
    go_wp2
    go_loopg [3, 13] n (fun g v3 v13 W => ∃ i : Nat, Below w.heap.size w W ∧ v3 = .int .i64 0 ∧ v13 = .int .i64 i ∧ g + i = n ∧ Hid (∀ j, j < i → fileE L j = 0))
    case atStart => exact ⟨0, Below.refl _ _, rfl, rfl, rfl, H0⟩
    case round =>
      obtain ⟨i, hbw, rfl, rfl, hg, hall⟩ := hrel
      have HG := Lib.hid hg
      have HBW := Lib.hid hbw
      have hi0 : (0 : Int) ≤ (i : Int) := by omega
      have hiI : (i : Int) ≤ (n : Int) := by omega
      by_cases hi : (i : Int) < (n : Int)
      · have hin : i < n := by omega
        obtain ⟨b, o, rfl⟩ := HA.out.some_ (by omega)
        obtain ⟨x, hx⟩ : ∃ x, x = L.getD i default := ⟨_, rfl⟩
        obtain ⟨hc1, hc2⟩ := (HA.out.below hbw).cell i hin
        rw [← hx] at hc1 hc2
        obtain ⟨x1, x2⟩ := x
        simp only at hc1 hc2
        have hx1 : (L.getD i default).1 = x1 := by rw [← hx]
        have hx2 : (L.getD i default).2 = x2 := by rw [← hx]
        obtain ⟨s1, s2⟩ := HX.out i hin
        rw [hx1] at s1
        rw [hx2] at s2
        obtain ⟨c1, h1'⟩ : ∃ c, pathF x1 = c := ⟨_, rfl⟩
        obtain ⟨z, h2'⟩ : ∃ z, bytesF x2 = z := ⟨_, rfl⟩
        have P1 := Lib.hid (fun W hT => path_is (strB x1) c1 W (by rw [strB_size]; exact s1) hT (by rw [strB_list]; exact h1'))
        have P2 := Lib.hid (fun W hT => bytes_is (strB x2) (z : Int) W (by rw [strB_size]; exact s2) hT (by rw [strB_list, h2']))
        have E1 := Lib.hid (show pathF (L.getD i default).1 = c1 by rw [hx1]; exact h1')
        have E2 := Lib.hid (show bytesF (L.getD i default).2 = z by rw [hx2]; exact h2')
        have EX := Lib.hid hx1
        have HIN := Lib.hid hin
        have HTR := Lib.hid (fun e (he : fileE L i = e) (h0 : e ≠ 0) => tree_stop (by rw [HL.out]; exact HN.out) (by rw [HL.out]; exact hin) hall.out he h0)
        generalize hp : strB x1 = p1 at hc1 P1
        generalize hq : strB x2 = p2 at hc2 P2
        have HP1 := Lib.hid hp
        have HC1 := Lib.hid hc1
        clear hx hx1 hx2 s1 s2 h1' h2' hp hq hg
        rcases c1
        · have HE := Lib.hid (show r = 10 by rw [HR.out]; exact HTR.out 10 (fileE_name E1.out) (by decide))
          go_wp2_with (first
            | (go_at_call 16; (with_reducible refine (P1.out _ ((HT.out.below (HBW.out.alloc HBW.out.size _)).tabs)).mono ?_); rintro e w1 ⟨rfl, hb1⟩; have HB1 := Lib.hid ((HBW.out.alloc HBW.out.size (.cells #[.string p1, .string p2] 35)).trans (hb1.mono (Nat.le_trans HBW.out.size (by simp)))); clear hb1))
          try rw [Exit.noGoto_ret]
          go_ret
          exact ⟨by rw [HE.out]; rfl, HB1.out⟩
        · by_cases hz : (z : Int) = 0
          · have hz0 : z = 0 := by omega
            subst hz0
            have HI0 := Lib.hid (show ∀ k, k < 0 → clashF (L.getD k default).1 x1 = false from fun k hk => by omega)
            have hge : (0 : Int) ≤ (i : Int) := by omega
            have hic : i ≤ c := by have := HA.out.2.1; omega
            have hicI : (i : Int) ≤ (c : Int) := by omega
            go_wp2_with (first
              | (go_at_call 16; (with_reducible refine (P1.out _ ((HT.out.below (HBW.out.alloc HBW.out.size _)).tabs)).mono ?_); rintro e w1 ⟨rfl, hb1⟩; have d1 := cell_kept (show (wr.alloc (.cells #[.string p1, .string p2] 35)).cell? ⟨wr.heap.size, 0, none⟩ = some (.string p1) by simp) hb1; have d2 := cell_kept (show (wr.alloc (.cells #[.string p1, .string p2] 35)).cell? ⟨wr.heap.size, 1, none⟩ = some (.string p2) by simp) hb1; have HB1 := Lib.hid ((HBW.out.alloc HBW.out.size (.cells #[.string p1, .string p2] 35)).trans (hb1.mono (Nat.le_trans HBW.out.size (by simp)))); clear hb1)
              | (go_at_call 22; (with_reducible refine (P2.out _ ((HT.out.below HB1.out).tabs)).mono ?_); rintro e w2 ⟨rfl, hb2⟩; have f1 := cell_kept d1 hb2; have HB2 := Lib.hid (Below.trans HB1.out (hb2.mono HB1.out.size)); clear hb2 d1 d2))
            obtain ⟨gO, hgO⟩ : ∃ g, g = gk := ⟨_, rfl⟩
            have HGO := Lib.hid hgO
            clear hgO
            go_loopg [3, 31] i (fun g v3 v31 W => ∃ j : Nat, Below w.heap.size w W ∧ W.cell? ⟨wr.heap.size, 0, none⟩ = some (.string p1) ∧ v3 = .int .i64 0 ∧ v31 = .int .i64 j ∧ g + j = i ∧ Hid (∀ k, k < j → clashF (L.getD k default).1 x1 = false))
            case atStart => exact ⟨0, HB2.out, f1, rfl, rfl, rfl, HI0⟩
            case round =>
              obtain ⟨j, hbw3, hf3, rfl, rfl, hg3, hno⟩ := hrel
              have HG3 := Lib.hid hg3
              have HBW3 := Lib.hid hbw3
              have hj0 : (0 : Int) ≤ (j : Int) := by omega
              have hjI : (j : Int) ≤ (i : Int) := by omega
              by_cases hj : (j : Int) < (i : Int)
              · have hji : j < i := by omega
                obtain ⟨e1, e2⟩ := (HA.out.below hbw3).cell j (by omega)
                obtain ⟨y1, hy1⟩ : ∃ y1, y1 = (L.getD j default).1 := ⟨_, rfl⟩
                rw [← hy1] at e1
                obtain ⟨f, hf⟩ : ∃ f, clashF y1 x1 = f := ⟨_, rfl⟩
                have P3 := Lib.hid (fun W => clash_is (strB y1) p1 f W (by rw [← HP1.out, strB_list, strB_list]; exact hf))
                have HF := Lib.hid (show clashF (L.getD j default).1 x1 = f by rw [← hy1]; exact hf)
                have HJI := Lib.hid hji
                generalize hq1 : strB y1 = q1 at e1 P3
                generalize hq2 : strB (L.getD j default).2 = q2 at e2
                clear hy1 hf hq1 hq2 hji hg3
                have d3 := cell_kept hf3 ((Below.refl wr.heap.size wr).alloc (Nat.le_refl _) (.cells #[.string q1, .string q2] 35))
                rcases f
                · have HN3 := Lib.hid (show ∀ k, k < j + 1 → clashF (L.getD k default).1 x1 = false from fun k hk => by
                    rcases Nat.lt_or_ge k j with h | h
                    · exact hno.out k h
                    · obtain rfl : k = j := by omega
                      exact HF.out)
                  have HB3 := Lib.hid (hbw3.alloc hbw3.size (.cells #[.string q1, .string q2] 35))
                  go_wp2_with (first
                    | (go_at_call 24; (with_reducible refine (P3.out _).mono ?_); rintro e w5 ⟨rfl, rfl⟩))
                  go_roundg (gk - 1)
                  case measure => have := HG3.out; have := HJI.out; omega
                  case rel => exact ⟨j + 1, HB3.out, d3, rfl, by go_num, by have := HG3.out; have := HJI.out; omega, HN3⟩
                · have HE := Lib.hid (show r = 11 by
                    rw [HR.out]
                    refine HTR.out 11 (fileE_there E1.out E2.out ?_) (by decide)
                    cases hcc : clashesF (L.getD i default).1 (aheadF L i) with
                    | true => rfl
                    | false =>
                      have h := (ahead_none (by rw [HL.out]; have := HIN.out; omega)).1 hcc j HJI.out
                      rw [clashF_comm, EX.out, HF.out] at h
                      cases h)
                  have HB3 := Lib.hid (hbw3.alloc hbw3.size (.cells #[.string q1, .string q2] 35))
                  go_wp2_with (first
                    | (go_at_call 24; (with_reducible refine (P3.out _).mono ?_); rintro e w5 ⟨rfl, rfl⟩))
                  try rw [Exit.noGoto_ret]
                  go_ret
                  exact ⟨by rw [HE.out]; rfl, HB3.out⟩
              · have HN4 := Lib.hid (show ∀ k, k < i + 1 → fileE L k = 0 from fun k hk => by
                  rcases Nat.lt_or_ge k i with h | h
                  · exact hall.out k h
                  · obtain rfl : k = i := by omega
                    refine fileE_ok E1.out E2.out ((ahead_none (by rw [HL.out]; have := HIN.out; omega)).2 fun q hq => ?_)
                    rw [clashF_comm, EX.out]
                    exact hno.out q (by omega))
                clear hg3
                go_wp2
                go_roundg (gO - 1)
                case measure => have := HG.out; have := HGO.out; have := HIN.out; omega
                case rel => exact ⟨i + 1, HBW3.out, rfl, by go_num, by have := HG.out; have := HGO.out; have := HIN.out; omega, HN4⟩
          · have hzb : ((z : Int) != 0) = true := by simp; omega
            have HE := Lib.hid (show r = z by rw [HR.out]; exact HTR.out z (fileE_bytes E1.out E2.out (by omega)) (by omega))
            go_wp2_with (first
              | (go_at_call 16; (with_reducible refine (P1.out _ ((HT.out.below (HBW.out.alloc HBW.out.size _)).tabs)).mono ?_); rintro e w1 ⟨rfl, hb1⟩; have d1 := cell_kept (show (wr.alloc (.cells #[.string p1, .string p2] 35)).cell? ⟨wr.heap.size, 0, none⟩ = some (.string p1) by simp) hb1; have d2 := cell_kept (show (wr.alloc (.cells #[.string p1, .string p2] 35)).cell? ⟨wr.heap.size, 1, none⟩ = some (.string p2) by simp) hb1; have HB1 := Lib.hid ((HBW.out.alloc HBW.out.size (.cells #[.string p1, .string p2] 35)).trans (hb1.mono (Nat.le_trans HBW.out.size (by simp)))); clear hb1)
              | (go_at_call 22; (with_reducible refine (P2.out _ ((HT.out.below HB1.out).tabs)).mono ?_); rintro e w2 ⟨rfl, hb2⟩; have HB2 := Lib.hid (Below.trans HB1.out (hb2.mono HB1.out.size)); clear hb2 d1 d2))
            try rw [Exit.noGoto_ret]
            go_ret
            exact ⟨by rw [HE.out]; rfl, HB2.out⟩
      · have HE := Lib.hid (show r = 0 by rw [HR.out]; exact tree_done (by rw [HL.out]; exact HN.out) (fun j hj => hall.out j (by rw [HL.out] at hj; omega)))
        clear hg
        go_wp2
        go_ret
        exact ⟨by rw [HE.out]; rfl, HBW.out⟩
#print axioms tree_any
end Go.Proofs.YtcahdlihoocplaaDoor
