/-
  The walk of the law ScoreMatches.
-/
import Derived.Test.YtkafeadgjpglaaaRefMatch
import Derived.Test.YtkafeadgjpglaaaCopy
namespace Go.Proofs.Ytkafeadgjpglaaa
open Go.RowKit

set_option maxRecDepth 100000 in
set_option maxHeartbeats 4000000 in
theorem scoreMatches_any (a : Option Addr) (n c : Nat) (M : List (List Nat)) (least : Nat) (w : World) (hM : MatAt w a n c M) (h64 : ∀ r, W64 (M.getD r [])) (hl : least < 18446744073709551616) : Calls Try.prog 7 #[.slice a n c, .float .f64 least] w (Yes w) := by
  by_cases hn : (12 : Int) < (n : Int)
  · clear hM
    go_enter Try.func7, Try.ntmps7
    go_wp2
    go_ret
    exact ⟨rfl, Below.refl _ _⟩
  · have HM := Lib.hid hM
    have H64 := Lib.hid h64
    have HLS := Lib.hid hl
    have HML := Lib.hid hM.1
    have hnI : (n : Int) ≤ 12 := by omega
    have hn0 : (0 : Int) ≤ (n : Int) := by omega
    have HN := Lib.hid (show n ≤ 1000 by omega)
    clear hM h64 hl
    go_enter Try.func7, Try.ntmps7
    go_wp2
    go_loopg [5] n (fun g v5 W => ∃ (i : Nat), v5 = .int .i64 i ∧ g + i = n ∧ Below w.heap.size w W ∧ Hid (∀ r, r < i → (M.getD r []).length ≤ 12))
    case atStart => exact ⟨0, rfl, rfl, Below.refl _ _, Lib.hid (fun k hk => by omega)⟩
    case round =>
      obtain ⟨i, rfl, hg, hbw, HQ⟩ := hrel
      have HG := Lib.hid hg
      have hi0 : (0 : Int) ≤ (i : Int) := by omega
      have hiI : (i : Int) ≤ (n : Int) := by omega
      have HBW := Lib.hid hbw
      by_cases hi : (i : Int) < (n : Int)
      · have HI := Lib.hid (show i < n by omega)
        obtain ⟨bm, om, rfl⟩ := HM.out.some_ (by omega)
        obtain ⟨a1, c1, hc0, hat⟩ := HM.out.row i HI.out
        obtain ⟨m, hm⟩ : ∃ m, m = (M.getD i []).length := ⟨_, rfl⟩
        rw [← hm] at hc0
        have hcell := (hbw.cell (p := ⟨bm, om + i, none⟩) (World.block_lt_of_cell? _ _ hc0)).trans hc0
        have HME := Lib.hid hm
        clear hg hbw hat hm hc0
        by_cases hm30 : (12 : Int) < (m : Int)
        · go_wp2
          go_ret
          exact ⟨rfl, HBW.out⟩
        · have hmd : decide ((12 : Int) < (m : Int)) = false := decide_eq_false hm30
          have hmn : decide (12 < m) = false := decide_eq_false (by omega)
          have HQN := Lib.hid (show ∀ r, r < i + 1 → (M.getD r []).length ≤ 12 from fun r hr => by
            rcases Nat.lt_or_ge r i with h | h
            · exact HQ.out r h
            · obtain rfl : r = i := by omega
              rw [← HME.out]; omega)
          clear hm30
          go_wp2
          go_roundg (n - (i + 1))
          case measure => have := HG.out; have := HI.out; omega
          case rel => exact ⟨i + 1, by go_num, by have := HI.out; omega, HBW.out, HQN⟩
      · have hin : i = n := by omega
        subst hin
        clear hg hbw
        have HMM := Lib.hid (show ∀ r, (M.getD r []).length ≤ 1000 from fun r => by
          rcases Nat.lt_or_ge r i with h | h
          · have := HQ.out r h; omega
          · have e : M.getD r [] = [] := by
              simp only [List.getD_eq_getElem?_getD]
              rw [List.getElem?_eq_none (by have := HML.out; omega)]
              rfl
            rw [e]; exact Nat.zero_le _)
        have HTL := Lib.hid (show (matchF least M).length ≤ 1000000000 by
          unfold matchF
          refine Nat.le_trans (greedy_length _ _) ?_
          rw [rankS_length, List.length_map]
          have h1 := candM_length least M 1000 HMM.out M.length
          have h2 : M.length * 1000 ≤ 1000 * 1000 := Nat.mul_le_mul_right _ (by rw [HML.out]; exact HN.out)
          omega)
        obtain ⟨T, hT⟩ : ∃ T, T = matchF least M := ⟨_, rfl⟩
        have HCP := Lib.hid (copyM_any a i c M wr (HM.out.below HBW.out) HN.out HMM.out)
        have HP := fun A C W => Lib.hid (fun h : MatAt W A i C M => show Calls Try.prog 32 #[.slice A i C, .float .f64 least] W (Pairs1 T W) by rw [hT]; exact match_any A i C M least W h H64.out HLS.out HN.out HMM.out)
        have HRF := fun A C W => Lib.hid (fun h : MatAt W A i C M => show Calls Try.prog 34 #[.slice A i C, .float .f64 least] W (Pairs1 T W) by rw [hT]; exact refMatch_any A i C M least W h H64.out HLS.out HN.out HMM.out)
        rw [← hT] at HTL
        clear hT
        go_wp2_with (first
          | (go_at_call 33; (with_reducible refine HCP.out.mono ?_); rintro e w2 ⟨a2, c2, rfl, hm2, hb2⟩; have HM2 := Lib.hid hm2; have HB2 := Lib.hid (Below.trans HBW.out (hb2.mono HBW.out.size)); clear hm2 hb2)
          | (go_at_call 32; (with_reducible refine ((HP _ _ _).out HM2.out).mono ?_); rintro e w3 ⟨a3, n3, c3, rfl, hat3, hb3⟩; have HT3 := Lib.hid hat3; have HB3 := Lib.hid (Below.step HB2.out hb3); clear hat3 hb3)
          | (go_at_call 34; (with_reducible refine ((HRF _ _ _).out (HM.out.below HB3.out)).mono ?_); rintro e w4 ⟨a4, n4, c4, rfl, hat4, hb4⟩; have HT4 := Lib.hid hat4; have HD3 := Lib.hid (HT3.out.below hb4); have HB4 := Lib.hid (Below.step HB3.out hb4); have HN3 := Lib.hid (show n3 ≤ 1000000000 from HT3.out.1 ▸ HTL.out); clear hat4 hb4)
          | (go_at_call 31; (with_reducible refine (pairs_yes a3 n3 c3 T a4 n4 c4 T _ HD3.out HT4.out HN3.out rfl).mono ?_); rintro e w5 ⟨rfl, hb5⟩; have HB5 := Lib.hid (Below.step HB4.out hb5); clear hb5)
          | (go_at_call 20; (with_reducible refine (awake_any _).mono ?_); rintro e w6 ⟨rfl, hb6⟩; have HB6 := Lib.hid (Below.step HB5.out hb6); clear hb6))
        go_ret
        exact ⟨rfl, HB6.out⟩
end Go.Proofs.Ytkafeadgjpglaaa
